package index_test

import (
	"reflect"
	"slices"
	"testing"
	"unsafe"

	"bailiff/api"
	"bailiff/index"
)

// What holds everywhere

// copied is a thing with another list in the place of each that is in it.
func copied[T any](x T, other func(v reflect.Value) reflect.Value) T {
	v := reflect.New(reflect.TypeFor[T]()).Elem()
	v.Set(reflect.ValueOf(x))
	var walk func(v reflect.Value)
	walk = func(v reflect.Value) {
		switch v.Kind() {
		case reflect.Struct:
			for i := range v.NumField() {
				walk(v.Field(i))
			}
		case reflect.Slice:
			v.Set(other(v))
			for i := range v.Len() {
				walk(v.Index(i))
			}
		}
	}
	walk(v)
	return v.Interface().(T)
}

// emptied has an empty list wherever there is none.
func emptied[T any](x T) T {
	return copied(x, func(v reflect.Value) reflect.Value {
		return reflect.AppendSlice(reflect.MakeSlice(v.Type(), 0, v.Len()), v)
	})
}

// withAll shares nothing with x, and has the room behind each list as part of it.
func withAll[T any](x T) T {
	return copied(x, func(v reflect.Value) reflect.Value {
		return reflect.AppendSlice(reflect.Zero(v.Type()), v.Slice(0, v.Cap()))
	})
}

// withRoom has something behind each list that would count if it were read, and be missed if it were written over.
func withRoom[T any](x T) T {
	return copied(x, func(v reflect.Value) reflect.Value {
		l := reflect.AppendSlice(reflect.MakeSlice(v.Type(), 0, v.Len()+2), v)
		for range 2 {
			l = reflect.Append(l, behind(v.Type().Elem()))
		}
		return l.Slice(0, v.Len())
	})
}

// behind is what lies in the room of lists of such things.
func behind(t reflect.Type) reflect.Value {
	m := is("room", 1)
	for _, x := range []any{
		m, []api.Match{m}, [][]api.Match{{m}}, api.Node{Op: api.NNot}, duty(1, "room"), whole(1), given(api.CCase, "x", whole(1)),
		api.Rule{Id: "room", Target: all(m)}, simple("room", api.DenyUnless),
	} {
		if reflect.TypeOf(x) == t {
			return reflect.ValueOf(x)
		}
	}
	return reflect.Zero(t)
}

// spoil writes into all that a thing is made of, the room of its lists too.
func spoil(v reflect.Value) {
	switch v.Kind() {
	case reflect.Struct:
		for i := range v.NumField() {
			spoil(v.Field(i))
		}
	case reflect.Slice:
		v = v.Slice(0, v.Cap())
		for i := range v.Len() {
			spoil(v.Index(i))
		}
	case reflect.Int:
		v.SetInt(77)
	case reflect.Bool:
		v.SetBool(!v.Bool())
	case reflect.String:
		v.SetString("spoilt")
	}
}

func spoilt[T any](x T) { spoil(reflect.ValueOf(&x).Elem()) }

// oneOf is a policy, mostly a set, and what it is asked.
func oneOf(i int) (api.Policy, []api.Given) {
	m := maker{x: uint64(i), most: 2 + i%5}
	p := m.right(1 + i%maxDeep)
	return p, m.request()
}

// R2, R5: what is handed in is as it was, and the room behind a list is neither read nor written.
func TestWhatIsHandedInStays(t *testing.T) {
	for i := range 3000 {
		plainOne, g := oneOf(i)
		if i%10 == 0 {
			plainOne.Obls = append(plainOne.Obls, duty(3, "a"))
		}
		want, wanted := index.Decide(plainOne, g)
		in := index.Pick(plainOne.Kids, g)
		key, found := index.Key(plainOne.Target)

		p, asked := withRoom(plainOne), withRoom(g)
		before, request := withAll(p), withAll(asked)
		for range 2 {
			if r, err := index.Decide(p, asked); !same(r, want) || err != wanted {
				t.Fatalf("%s of %s: with room %s, error %d, not %s, error %d", brief(plainOne), brief(g), told(r), err, told(want), wanted)
			}
			picks(t, "with room", p.Kids, asked, in...)
			if m, ok := index.Key(p.Target); m != key || ok != found {
				t.Fatalf("%s: with room %s, %t, not %s", brief(plainOne.Target), brief(m), ok, brief(key))
			}
		}
		if !reflect.DeepEqual(withAll(p), before) {
			t.Fatalf("%s is another policy", brief(plainOne))
		}
		if !reflect.DeepEqual(withAll(asked), request) {
			t.Fatalf("%s is another request", brief(g))
		}
	}
}

// R2: who writes into an answer changes neither the policy nor another answer, and the other way round.
func TestAnswersAreNewMemory(t *testing.T) {
	some, picked := 0, 0
	for i := range 3000 {
		p, g := oneOf(i)
		p, g = withRoom(p), withRoom(g)
		before, request := withAll(p), withAll(g)
		want := decided(t, p, g)
		want.Obls = slices.Clone(want.Obls)
		in, _ := pickByTheWords(p.Kids, g)
		some, picked = some+len(want.Obls), picked+len(in)

		first, _ := index.Decide(p, g)
		firstIn := index.Pick(p.Kids, g)
		for range 2 {
			second, _ := index.Decide(p, g)
			secondIn := index.Pick(p.Kids, g)
			spoilt(second.Obls)
			spoilt(secondIn)
		}
		if !reflect.DeepEqual(withAll(p), before) || !reflect.DeepEqual(withAll(g), request) {
			t.Fatalf("%s, %s: written into by an answer", brief(before), brief(request))
		}
		if !same(first, want) || !slices.Equal(firstIn, in) {
			t.Fatalf("%s, %v: not %s, %v", told(first), firstIn, told(want), in)
		}
		comes(t, "as before", p, g, want)
		picks(t, "as before", p.Kids, g, in...)
		spoilt(p)
		spoilt(g)
		if !same(first, want) || !slices.Equal(firstIn, in) {
			t.Fatalf("%s, %v: not %s, %v", told(first), firstIn, told(want), in)
		}
	}
	if some < 300 || picked < 1500 {
		t.Error(some, picked)
	}
}

// R2: texts are no more kept than lists, nor shared by two answers.
func TestTextsAreNotKept(t *testing.T) {
	shared := []byte("ann")
	name := unsafe.String(&shared[0], len(shared))
	l := all(must(is(name, 1)), api.Match{Attr: attr(api.CCase, name), Op: api.MEq, Value: text(name)})
	duties := []api.Obl{duty(1, name), duty(2, name)}
	kid := api.Policy{Id: "p", Alg: api.PermitUnless, Target: all(l[0][0][1]), Obls: duties, Rules: []api.Rule{{Id: "r", Obls: duties}}}
	p := api.Policy{Id: "s", Set: true, Alg: api.DenyOverrides, Kids: []api.Policy{kid}, Obls: duties}
	g := []api.Given{given(api.CCase, name, text(name))}

	first, _ := index.Key(l)
	second, _ := index.Key(l)
	r, _ := index.Decide(p, g)
	s, _ := index.Decide(p, g)
	texts := []string{first.Attr.Name, first.Value.S, second.Attr.Name, second.Value.S}
	for _, o := range slices.Concat(r.Obls, s.Obls) {
		texts = append(texts, o.Arg)
	}
	if len(texts) != 4+2*3 {
		t.Fatal(texts)
	}
	for i, a := range texts {
		for _, b := range append(texts[:i:i], name) {
			if unsafe.StringData(a) == unsafe.StringData(b) {
				t.Error("shared", i)
			}
		}
	}
	copy(shared, "???")
	for i, a := range texts {
		if a != "ann" {
			t.Error(i, a)
		}
	}
	if want := (api.Match{Attr: attr(api.CCase, "ann"), Op: api.MEq, Value: text("ann")}); first != want || second != want {
		t.Error(first, second)
	}
}

// R4: nil and empty lists mean the same.
func TestEmptyLists(t *testing.T) {
	for i := range 3000 {
		p, g := oneOf(i)
		want := decided(t, p, g)
		comes(t, "empty lists", emptied(p), emptied(g), want)
		in, _ := pickByTheWords(p.Kids, g)
		picks(t, "empty lists", emptied(p.Kids), emptied(g), in...)
		if m, ok := keyByTheWords(p.Target); ok {
			hasKey(t, "empty lists", emptied(p.Target), m)
		} else {
			noKey(t, "empty lists", emptied(p.Target))
		}
		comes(t, "no request", p, []api.Given{}, decided(t, p, nil))
	}
}

// R4, R8: what was asked before says nothing of what is asked now.
func TestNothingIsKept(t *testing.T) {
	p := read(t, "set s denyover { policy a permitunless { } on permit log a policy b denyunless when (case.x = 1) { } on deny notify b } on permit review c")
	permit := api.Result{Mark: api.Permit, Obls: []api.Obl{duty(1, "a"), {On: 1, Kind: api.OReview, Arg: "c"}}}
	deny := api.Result{Mark: api.Deny, Obls: []api.Obl{{On: 2, Kind: api.ONotify, Arg: "b"}}}
	g := x(whole(2))
	for range 2 {
		g[0].Bag[0] = whole(2)
		comes(t, "not denied", p, g, permit)
		picks(t, "not denied", p.Kids, g, 0)
		g[0].Bag[0] = whole(1)
		comes(t, "denied now", p, g, deny)
		picks(t, "denied now", p.Kids, g, 0, 1)
		g[0].Bag[0] = text("a")
		comes(t, "not known now", p, g, api.Result{Mark: api.IndetDP})
		picks(t, "not known now", p.Kids, g, 0, 1)
	}
	b := &p.Kids[1].Target[0][0][0]
	b.Value = text("b")
	comes(t, "of others now", p, g, permit)
	hasKey(t, "of others now", p.Kids[1].Target, *b)
	b.Attr.Must = true
	g[0].Name = "y"
	comes(t, "not known now", p, g, api.Result{Mark: api.IndetDP})
	noKey(t, "without a Key now", p.Kids[1].Target)
	picks(t, "without a Key now", p.Kids, g, 0, 1)
	p.Kids[1].Target = nil
	comes(t, "of everybody now", p, g, deny)
	p.Alg = 0
	refused(t, "wrong now", p, g)
	p.Alg = api.PermitOverrides
	comes(t, "permitted now", p, g, permit)
}
