package show_test

import (
	"reflect"
	"testing"
	"unsafe"

	"bailiff/api"
	"bailiff/show"
)

// What holds everywhere

// copied is a thing with another list in the place of each that is in it.
func copied[T any](x T, other func(v reflect.Value) reflect.Value) T {
	v := reflect.New(reflect.TypeFor[T]()).Elem()
	v.Set(reflect.ValueOf(x))
	var walk func(v reflect.Value)
	walk = func(v reflect.Value) {
		switch v.Kind() {
		case reflect.Struct:
			for i := range v.NumField() {
				walk(v.Field(i))
			}
		case reflect.Slice:
			v.Set(other(v))
			for i := range v.Len() {
				walk(v.Index(i))
			}
		}
	}
	walk(v)
	return v.Interface().(T)
}

// withNil has nil in the place of each empty list.
func withNil[T any](x T) T {
	return copied(x, func(v reflect.Value) reflect.Value { return reflect.AppendSlice(reflect.Zero(v.Type()), v) })
}

// withRoom has something behind each list.
func withRoom[T any](x T) T {
	return copied(x, func(v reflect.Value) reflect.Value {
		l := reflect.MakeSlice(v.Type(), v.Len()+3, v.Len()+3)
		for i := range l.Len() {
			if v.Len() > 0 {
				l.Index(i).Set(v.Index(i % v.Len()))
			}
		}
		return l.Slice(0, v.Len())
	})
}

// withAll has the room behind each list as part of it.
func withAll[T any](x T) T {
	return copied(x, func(v reflect.Value) reflect.Value {
		return reflect.AppendSlice(reflect.Zero(v.Type()), v.Slice(0, v.Cap()))
	})
}

// R2, R5: what is handed in is as it was, and the room behind a list is neither read nor written.
func TestWhatIsHandedInStays(t *testing.T) {
	for i := range 500 {
		m := maker{x: uint64(i)}
		p, want := m.policy(1)
		p = withRoom(p)
		before := withAll(p)
		for range 2 {
			if got := show.Policy(p); got != want {
				t.Fatalf("%q, not %q", got, want)
			}
		}
		if !reflect.DeepEqual(withAll(p), before) {
			t.Fatalf("%q: the policy isn't as it was", want)
		}
		l, want := m.expr(maxExpr)
		l = withRoom(l)
		nodes := withAll(l)
		for range 2 {
			expr(t, want, l...)
		}
		if !reflect.DeepEqual(withAll(l), nodes) {
			t.Fatalf("%q: the expression isn't as it was", want)
		}
	}
	p := withRoom(full())
	p.Kids[1].Kids[1].Rules[2].Cond[0].Value.Kind = api.KBool
	before := withAll(p)
	noPolicy(t, "a value that isn't right", p)
	if !reflect.DeepEqual(withAll(p), before) {
		t.Error("a policy that isn't right isn't as it was")
	}
}

// R2: texts are not kept.
func TestNewMemory(t *testing.T) {
	b := []byte("ann")
	name := unsafe.String(&b[0], len(b))
	rule := api.Rule{Id: "r", Target: api.Target{{{{Attr: attr(api.CCase, name), Op: api.MLess, Value: text(name)}}}}, Cond: []api.Node{lit(id(name))}, Obls: log(1)}
	rule.Obls[0].Arg = name
	a, e, v, p := show.Attr(attr(api.CCase, name)), show.Expr(rule.Cond), show.Expr([]api.Node{lit(text(name))}), show.Policy(plain(name, rule))
	copy(b, "???")
	for got, want := range map[string]string{a: "case.ann", e: "#ann", v: `"ann"`, p: `policy ann first { permit r when (case.ann < "ann") if #ann on permit log ann; }`} {
		if got != want {
			t.Errorf("%q, not %q", got, want)
		}
	}
}

// R4: nil and empty lists are written the same.
func TestEmptyLists(t *testing.T) {
	rule := api.Rule{Id: "r", Target: api.Target{}, Cond: []api.Node{}, Obls: []api.Obl{}}
	p := api.Policy{Id: "p", Alg: api.FirstApplicable, Target: api.Target{}, Rules: []api.Rule{rule}, Kids: []api.Policy{}, Obls: []api.Obl{}}
	if got := show.Policy(p); got != "policy p first { permit r; }" {
		t.Error(got)
	}
	p.Target, p.Kids, p.Obls, p.Rules = cube(1, 1, 1)[:0], []api.Policy{plain("q")}[:0], log(1)[:0], p.Rules[:0]
	if got := show.Policy(p); got != "policy p first { }" {
		t.Error(got)
	}
	p.Set = true
	if got := show.Policy(p); got != "set p first { }" {
		t.Error(got)
	}
	expr(t, "1", []api.Node{lit(whole(1)), call(api.NNot)}[:1]...)
}
