package compile_test

import (
	"reflect"
	"slices"
	"testing"
	"unsafe"

	"bailiff/api"
	"bailiff/compile"
)

// What holds everywhere

// copied is a thing with another list in the place of each that is in it.
func copied[T any](x T, other func(v reflect.Value) reflect.Value) T {
	v := reflect.New(reflect.TypeFor[T]()).Elem()
	v.Set(reflect.ValueOf(x))
	var walk func(v reflect.Value)
	walk = func(v reflect.Value) {
		switch v.Kind() {
		case reflect.Struct:
			for i := range v.NumField() {
				walk(v.Field(i))
			}
		case reflect.Slice:
			v.Set(other(v))
			for i := range v.Len() {
				walk(v.Index(i))
			}
		}
	}
	walk(v)
	return v.Interface().(T)
}

// emptied has an empty list wherever there is none.
func emptied[T any](x T) T {
	return copied(x, func(v reflect.Value) reflect.Value {
		return reflect.AppendSlice(reflect.MakeSlice(v.Type(), 0, v.Len()), v)
	})
}

// withAll shares nothing with x, and has the room behind each list as part of it.
func withAll[T any](x T) T {
	return copied(x, func(v reflect.Value) reflect.Value {
		return reflect.AppendSlice(reflect.Zero(v.Type()), v.Slice(0, v.Cap()))
	})
}

// withRoom has something behind each list that would count if it were read, and be missed if it were written over.
func withRoom[T any](x T) T {
	return copied(x, func(v reflect.Value) reflect.Value {
		l := reflect.AppendSlice(reflect.MakeSlice(v.Type(), 0, v.Len()+2), v)
		for range 2 {
			l = reflect.Append(l, behind(v.Type().Elem()))
		}
		return l.Slice(0, v.Len())
	})
}

// behind is what lies in the room of lists of such things.
func behind(t reflect.Type) reflect.Value {
	m := asks(99)
	for _, x := range []any{
		m, []api.Match{m}, [][]api.Match{{m}}, api.Node{Op: api.NNot}, duty(1, "room"), whole(1), given(api.CCase, "x", whole(1)), 2,
		api.Rule{Id: "room", Target: allOf(99)}, simple("room", api.DenyUnless),
	} {
		if reflect.TypeOf(x) == t {
			return reflect.ValueOf(x)
		}
	}
	return reflect.Zero(t)
}

// spoil writes into all that a thing is made of, the room of its lists too.
func spoil(v reflect.Value) {
	switch v.Kind() {
	case reflect.Struct:
		for i := range v.NumField() {
			spoil(v.Field(i))
		}
	case reflect.Slice:
		v = v.Slice(0, v.Cap())
		for i := range v.Len() {
			spoil(v.Index(i))
		}
	case reflect.Int:
		v.SetInt(77)
	case reflect.Bool:
		v.SetBool(!v.Bool())
	case reflect.String:
		v.SetString("spoilt")
	}
}

func spoilt[T any](x T) { spoil(reflect.ValueOf(&x).Elem()) }

// oneOf is a policy, mostly with a diagram, what it is asked, and some answers to its atoms.
func oneOf(i int) (api.Policy, []api.Given, []int) {
	m := maker{x: uint64(i), shared: true, matches: 1 + i%5, conds: i % 4, most: 2 + i%3, args: 1 + i%5}
	return m.right(1 + i%maxDeep), m.request(), m.row(m.n(8))
}

// R2, R5: what is handed in is as it was, and the room behind a list is neither read nor written.
func TestWhatIsHandedInStays(t *testing.T) {
	for i := range 600 {
		plainOne, g, row := oneOf(i)
		if i%10 == 0 {
			plainOne.Obls = append(plainOne.Obls, duty(3, "a"))
		}
		d, wanted := compile.Of(plainOne)
		want, whole := compile.Decide(plainOne, g)

		p, asked, answered := withRoom(plainOne), withRoom(g), withRoom(row)
		before, request, list := withAll(p), withAll(asked), withAll(answered)
		for range 2 {
			e, err := compile.Of(p)
			if err != wanted {
				t.Fatalf("%+v: with room error %d, not %d", plainOne, err, wanted)
			}
			if r, err := compile.Decide(p, asked); !same(r, want) || err != whole {
				t.Fatalf("%+v of %+v: with room %s, error %d, not %s, error %d", plainOne, g, told(r), err, told(want), whole)
			}
			if e == nil {
				continue
			}
			r, n := d.Decide(g)
			comes(t, "with room", e, asked, r, n)
			answers(t, "with room", e, answered, d.Answer(row))
			sizes(t, "with room", e, d.Size())
		}
		if !reflect.DeepEqual(withAll(p), before) {
			t.Fatalf("%+v is another policy", plainOne)
		}
		if !reflect.DeepEqual(withAll(asked), request) || !reflect.DeepEqual(withAll(answered), list) {
			t.Fatalf("%+v is another request, or %v another list", g, row)
		}
	}
}

// R2: who writes into an answer changes neither the policy nor the diagram nor another answer, and the other way round.
func TestAnswersAreNewMemory(t *testing.T) {
	some := 0
	for i := range 600 {
		p, g, row := oneOf(i)
		p = withRoom(p)
		before := withAll(p)
		d, err := compile.Of(p)
		if err != api.OK {
			continue
		}
		kept := func(r api.Result) api.Result { return api.Result{Mark: r.Mark, Obls: slices.Clone(r.Obls)} }
		first, n := d.Decide(g)
		firstWhole, _ := compile.Decide(p, g)
		firstAnswer := d.Answer(row)
		want, wantAnswer, size := kept(first), kept(firstAnswer), d.Size()
		some += len(want.Obls) * len(wantAnswer.Obls)

		for range 2 {
			second, _ := d.Decide(g)
			secondWhole, _ := compile.Decide(p, g)
			secondAnswer := d.Answer(row)
			spoilt(second.Obls)
			spoilt(secondWhole.Obls)
			spoilt(secondAnswer.Obls)
		}
		if !same(first, want) || !same(firstWhole, want) || !same(firstAnswer, wantAnswer) {
			t.Fatalf("%s, %s, %s: not %s, %s", told(first), told(firstWhole), told(firstAnswer), told(want), told(wantAnswer))
		}
		if !reflect.DeepEqual(withAll(p), before) {
			t.Fatalf("%+v: written into by an answer", before)
		}
		again := slices.Clone(row)
		spoilt(p)
		spoilt(row)
		comes(t, "as before", d, g, want, n)
		answers(t, "as before", d, again, wantAnswer)
		sizes(t, "as before", d, size)
		spoilt(g)
		if !same(first, want) || !same(firstAnswer, wantAnswer) {
			t.Fatalf("%s, %s: not %s, %s", told(first), told(firstAnswer), told(want), told(wantAnswer))
		}
	}
	if some < 100 {
		t.Error(some)
	}
}

// R2: texts are no more kept than lists.
func TestTextsAreNotKept(t *testing.T) {
	shared := []byte("ann")
	name := unsafe.String(&shared[0], len(shared))
	a := api.Attr{Cat: api.CCase, Name: name}
	m := api.Match{Attr: a, Op: api.MEq, Value: text(name)}
	l := []api.Obl{duty(1, name), duty(2, name)}
	p := set("s", api.DenyUnless,
		api.Policy{Id: "p", Alg: api.DenyOverrides, Target: api.Target{{{m}}}, Obls: l, Rules: []api.Rule{{Id: "r", Cond: do(api.NHas, of(a), lit(text(name))), Obls: l}}})
	p.Obls = l
	d := diagram(t, "texts", p)
	whole, _ := compile.Decide(p, []api.Given{given(api.CCase, name, text(name))})
	answer := d.Answer([]int{2, 2})
	copy(shared, "???")
	want := api.Result{Mark: api.Permit, Obls: []api.Obl{duty(1, "ann"), duty(1, "ann"), duty(1, "ann")}}
	if !same(whole, want) || !same(answer, want) {
		t.Error(told(whole), told(answer))
	}
	g := []api.Given{given(api.CCase, "ann", text("ann"))}
	comes(t, "texts", d, g, want, 2)
	comes(t, "texts", d, nil, api.Result{Mark: api.Deny, Obls: []api.Obl{duty(2, "ann")}}, 1)
	// Nor does an answer share the bytes of its texts with another one, or with the diagram.
	r, _ := d.Decide(g)
	for _, other := range []api.Result{d.Answer([]int{2, 2}), answer, whole} {
		for i := range r.Obls {
			for _, o := range slices.Concat(other.Obls, r.Obls[:i]) {
				if unsafe.StringData(r.Obls[i].Arg) == unsafe.StringData(o.Arg) {
					t.Fatal("shared")
				}
			}
		}
	}
}

// R4: nil and empty lists mean the same.
func TestEmptyLists(t *testing.T) {
	for i := range 600 {
		p, g, row := oneOf(i)
		d, err := compile.Of(p)
		e, empty := compile.Of(emptied(p))
		if err != empty {
			t.Fatalf("%+v: error %d, not %d", p, empty, err)
		}
		if err != api.OK {
			continue
		}
		r, n := d.Decide(g)
		comes(t, "empty lists", e, emptied(g), r, n)
		answers(t, "empty lists", e, emptied(row), d.Answer(row))
		sizes(t, "empty lists", e, d.Size())
		decides(t, "empty lists", emptied(p), emptied(g), r)
	}
}

// R4, R8: what was asked before says nothing of what is asked now, and no diagram of another one.
func TestNothingIsKept(t *testing.T) {
	p := read(t, "policy p denyover { permit r on permit log a; deny d when (case.x = 1) on deny notify b; } on permit review c")
	permit := api.Result{Mark: api.Permit, Obls: []api.Obl{duty(1, "a"), {On: 1, Kind: api.OReview, Arg: "c"}}}
	deny := api.Result{Mark: api.Deny, Obls: []api.Obl{{On: 2, Kind: api.ONotify, Arg: "b"}}}
	d := diagram(t, "first", p)
	g := x(whole(2))
	comes(t, "not denied", d, g, permit, 1)
	g[0].Bag[0] = whole(1)
	comes(t, "denied now", d, g, deny, 1)
	g[0].Bag[0] = text("a")
	comes(t, "not known now", d, g, api.Result{Mark: api.IndetDP}, 1)
	p.Rules[1].Target[0][0][0].Value = text("a")
	p.Rules[0].Obls[0].Arg = "z"
	e := diagram(t, "another", p)
	comes(t, "by the other one", e, g, deny, 1)
	comes(t, "by the first one", d, g, api.Result{Mark: api.IndetDP}, 1)
	comes(t, "by the first one", d, nil, permit, 1)
	permit.Obls[0].Arg = "z"
	comes(t, "by the other one", e, nil, permit, 1)
	decides(t, "by the other one", p, nil, permit)
	p.Alg = 0
	wrong(t, "wrong now", p)
	comes(t, "by the other one", e, nil, permit, 1)
	p.Alg, p.Rules[1].Target = api.DenyOverrides, nil
	decides(t, "of everybody now", p, nil, deny)
}
