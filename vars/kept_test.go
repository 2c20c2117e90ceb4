package vars_test

import (
	"reflect"
	"slices"
	"strings"
	"testing"
	"unsafe"

	"bailiff/api"
	"bailiff/vars"
)

// What holds everywhere

// copied is a thing with another list in the place of each that is in it.
func copied[T any](x T, other func(v reflect.Value) reflect.Value) T {
	v := reflect.New(reflect.TypeFor[T]()).Elem()
	v.Set(reflect.ValueOf(x))
	var walk func(v reflect.Value)
	walk = func(v reflect.Value) {
		switch v.Kind() {
		case reflect.Struct:
			for i := range v.NumField() {
				walk(v.Field(i))
			}
		case reflect.Slice:
			v.Set(other(v))
			for i := range v.Len() {
				walk(v.Index(i))
			}
		}
	}
	walk(v)
	return v.Interface().(T)
}

// emptied has an empty list wherever there is none.
func emptied[T any](x T) T {
	return copied(x, func(v reflect.Value) reflect.Value {
		return reflect.AppendSlice(reflect.MakeSlice(v.Type(), 0, v.Len()), v)
	})
}

// withAll shares nothing with x, and has the room behind each list as part of it.
func withAll[T any](x T) T {
	return copied(x, func(v reflect.Value) reflect.Value {
		return reflect.AppendSlice(reflect.Zero(v.Type()), v.Slice(0, v.Cap()))
	})
}

// withRoom has something behind each list that would count if it were read, and be missed if it were written over.
func withRoom[T any](x T) T {
	return copied(x, func(v reflect.Value) reflect.Value {
		l := reflect.AppendSlice(reflect.MakeSlice(v.Type(), 0, v.Len()+2), v)
		for range 2 {
			l = reflect.Append(l, behind(v.Type().Elem()))
		}
		return l.Slice(0, v.Len())
	})
}

// behind is what lies in the room of lists of such things: it asks what no policy here asks.
func behind(t reflect.Type) reflect.Value {
	m := asks(api.MMore, text("room"))
	target := api.Target{{{m}}}
	for _, x := range []any{
		m, []api.Match{m}, [][]api.Match{{m}}, api.Node{Op: api.NNot}, api.Obl{On: 1, Kind: 1, Arg: "room"}, whole(77), given(api.CCase, "x", whole(77)), ofMatch(m),
		api.Rule{Id: "room", Target: target, Cond: lit(text("room"))}, api.Policy{Id: "room", Alg: 1, Target: target},
	} {
		if reflect.TypeOf(x) == t {
			return reflect.ValueOf(x)
		}
	}
	return reflect.Zero(t)
}

// spoil writes into all that a thing is made of, the room of its lists too.
func spoil(v reflect.Value) {
	switch v.Kind() {
	case reflect.Struct:
		for i := range v.NumField() {
			spoil(v.Field(i))
		}
	case reflect.Slice:
		v = v.Slice(0, v.Cap())
		for i := range v.Len() {
			spoil(v.Index(i))
		}
	case reflect.Int:
		v.SetInt(77)
	case reflect.Bool:
		v.SetBool(!v.Bool())
	case reflect.String:
		v.SetString("spoilt")
	}
}

func spoilt[T any](x T) { spoil(reflect.ValueOf(&x).Elem()) }

// R2, R5: what is handed in is as it was, and the room behind a list is neither read nor written.
func TestWhatIsHandedInStays(t *testing.T) {
	for i := range 3000 {
		m := maker{x: uint64(i), room: []int{3, 400}[i%2]}
		plain, g := m.policy(1+i/2%maxDeep, 4), m.request()
		if i%10 == 0 {
			plain.Obls = append(plain.Obls, api.Obl{On: 3})
		}
		want, wanted := vars.Of(plain)
		p, room := withRoom(plain), withRoom(g)
		before, request := withAll(p), withAll(room)
		for range 2 {
			l, err := vars.Of(p)
			if !same(l, want) || err != wanted {
				t.Fatalf("%+v: with room %s, error %d, not %s, error %d", plain, allTold(l), err, allTold(want), wanted)
			}
			asked := withRoom(want)
			list := withAll(asked)
			finds(t, "what lies in the room", asked, ofMatch(asks(api.MMore, text("room"))), -1)
			for k, a := range asked {
				finds(t, "with room", asked, a, k)
				finds(t, "with room, in a list without", want, a, k)
				answers(t, "with room", a, room, vars.Ask(want[k], g))
			}
			if !reflect.DeepEqual(withAll(asked), list) {
				t.Fatalf("%s: another list", allTold(want))
			}
		}
		if !reflect.DeepEqual(withAll(p), before) {
			t.Fatalf("%+v is another policy", plain)
		}
		if !reflect.DeepEqual(withAll(room), request) {
			t.Fatalf("%+v is another request", g)
		}
	}
}

func allAgain(l []api.Atom) []api.Atom {
	var out []api.Atom
	for _, a := range l {
		out = append(out, again(a))
	}
	return out
}

// R2: who writes into an answer changes neither the policy nor another answer, and the other way round.
func TestAnswersAreNewMemory(t *testing.T) {
	for i := range 2000 {
		m := maker{x: uint64(i), room: 3}
		p, want := small(&m, 1+i%maxDeep)
		p, want = withRoom(p), allAgain(want)
		before := withAll(p)

		one := atoms(t, p)
		spoilt(atoms(t, p))
		if !reflect.DeepEqual(withAll(p), before) {
			t.Fatalf("%+v: written into by an answer", before)
		}
		two := atoms(t, p)
		spoilt(p)
		if !same(one, want) || !same(two, want) {
			t.Fatalf("%s, %s: not %s", allTold(one), allTold(two), allTold(want))
		}
		// No two lists of one answer share any memory.
		for k := range two {
			spoilt(two[k].Cond)
			if !same(two[k+1:], want[k+1:]) {
				t.Fatalf("%s: not %s", allTold(two[k+1:]), allTold(want[k+1:]))
			}
		}
	}
}

// R2: conditions that lie in one piece of memory, each the beginning of the next one, lie in one each in the answer.
func TestListsOfOneAnswer(t *testing.T) {
	all := slices.Concat(lit(boolean(1)), slices.Repeat(do(api.NNot), maxExpr-1))
	var p api.Policy
	var want []api.Atom
	for i := range maxKids {
		p.Rules = append(p.Rules, api.Rule{Id: "r" + string(rune('a'+i)), Cond: all[:2*i+1]})
		want = append(want, again(ofCond(all[:2*i+1])))
	}
	p.Id, p.Alg = "p", api.DenyOverrides
	for i := range want {
		l := atoms(t, p)
		spoilt(l[i].Cond)
		if !same(slices.Delete(slices.Clone(l), i, i+1), slices.Delete(slices.Clone(want), i, i+1)) {
			t.Errorf("%d shares with others", i)
		}
		lists(t, "written into an answer", p, want...)
	}
}

// R2: texts are no more kept than lists.
func TestTextsAreNotKept(t *testing.T) {
	shared := []byte("ann")
	name := unsafe.String(&shared[0], len(shared))
	m := api.Match{Attr: attr(api.CCase, name), Op: api.MEq, Value: text(name)}
	cond := do(api.NHas, of(attr(api.CCase, name)), lit(id(name)))
	p := set("s", api.Policy{Id: "p", Alg: api.DenyOverrides, Target: api.Target{{{m}}}, Rules: []api.Rule{{Id: "r", Target: api.Target{{{m}}}, Cond: cond}}})
	l := atoms(t, p)
	copy(shared, "???")
	if got := allTold(l); got != `case.ann = "ann"; (has case.ann #ann)` {
		t.Error(got)
	}
}

// R3, R4: nil and empty lists mean the same; what is given no meaning is zero.
func TestEmptyLists(t *testing.T) {
	for i := range 2000 {
		m := maker{x: uint64(i), room: 3}
		p, want := small(&m, 1+i%maxDeep)
		lists(t, "empty lists", emptied(p), want...)
		for k, a := range want {
			finds(t, "empty lists", emptied(want), a, k)
			finds(t, "of an empty list", want, emptied(a), k)
			answers(t, "an empty request", emptied(a), []api.Given{}, vars.Ask(a, nil))
			if len(a.Cond) > 0 && a.Match != (api.Match{}) {
				t.Fatalf("%+v: both parts", a)
			}
		}
	}
}

// R4, R8: what was asked before says nothing of what is asked now.
func TestNothingIsKept(t *testing.T) {
	p := read(t, "policy p first when (case.x = 1) { permit r if true; deny d when (case.x = 2); }")
	one, two, yes := ofMatch(asks(api.MEq, whole(1))), ofMatch(asks(api.MEq, whole(2))), ofCond(lit(boolean(1)))
	lists(t, "first", p, one, yes, two)
	p.Target[0][0][0].Value.N = 2
	lists(t, "another match now", p, two, yes)
	p.Rules[0].Cond[0].Value.N = 0
	lists(t, "another condition now", p, two, ofCond(lit(boolean(0))))
	p.Alg = 0
	refused(t, "wrong now", p, api.ErrArg)
	p.Alg, p.Target = 1, targetOf(first(maxVars+1))
	refused(t, "too many now", p, api.ErrLimit)
	p.Target, p.Rules = nil, p.Rules[1:]
	lists(t, "little now", p, two)

	l, a, g := []api.Atom{one, two}, again(one), x(whole(1))
	finds(t, "first", l, a, 0)
	answers(t, "first", a, g, 2)
	l[0], g[0].Bag[0] = two, text("a")
	finds(t, "not there now", l, a, -1)
	answers(t, "not known now", a, g, 1)
	a.Match.Value.N, a.Cond = 2, nil
	finds(t, "another one now", l, a, 0)
	a.Cond = lit(boolean(0))
	finds(t, "of both parts now", l, a, -1)
	answers(t, "a condition now", a, g, 0)
}

// R1: long ones are at their end soon.
func TestLongOnes(t *testing.T) {
	long := strings.Repeat("a", 1<<22)
	cond := slices.Repeat(lit(text(long)), 1<<18)
	l := slices.Repeat([]api.Atom{numbered(1)}, 1<<18)
	l = append(l, ofCond(cond[1:]), ofMatch(asks(api.MEq, text(long[1:]))), ofMatch(asks(api.MEq, text(long))), ofCond(cond))
	n := len(l)
	for i := n - 4; i < n; i++ {
		if got := vars.Find(l, l[i]); got != i {
			t.Errorf("%d, not %d", got, i)
		}
	}
	if got := vars.Ask(ofCond(cond), nil); got != 1 {
		t.Error(got)
	}
	if got := vars.Ask(ofMatch(asks(api.MEq, text(long))), x(append(slices.Repeat([]api.Value{text("b")}, 1<<18), text(long))...)); got != 2 {
		t.Error(got)
	}
	refused(t, "a long name", api.Policy{Id: long, Alg: 1}, api.ErrArg)
	refused(t, "many rules", simple(nil, slices.Repeat([]api.Rule{{Id: "r", Cond: cond}}, 1<<16)...), api.ErrArg)
	refused(t, "many kids", set("s", slices.Repeat([]api.Policy{simple(nil)}, 1<<16)...), api.ErrArg)
	refused(t, "a long condition", simple(nil, api.Rule{Id: "r", Cond: cond}), api.ErrArg)
	refused(t, "a great target", simple(slices.Repeat(api.Target{{{asks(api.MEq, whole(1))}}}, 1<<18)), api.ErrArg)
}
