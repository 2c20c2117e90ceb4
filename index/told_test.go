package index_test

import (
	"fmt"
	"slices"
	"strconv"
	"testing"

	"bailiff/api"
	"bailiff/eval"
	"bailiff/index"
	"bailiff/mark"
	"bailiff/parse"
)

// The limits as the document's page has them.
const (
	maxName  = 16
	maxText  = 64
	maxBag   = 16
	maxExpr  = 32
	maxMatch = 8
	maxObls  = 8
	maxKids  = 16
	maxDeep  = 4
	maxAll   = 64
	maxTick  = 1 << 40
)

func boolean(n int) api.Value { return api.Value{Kind: api.KBool, N: n} }
func whole(n int) api.Value   { return api.Value{Kind: api.KInt, N: n} }
func text(s string) api.Value { return api.Value{Kind: api.KText, S: s} }
func tick(n int) api.Value    { return api.Value{Kind: api.KTick, N: n} }
func id(s string) api.Value   { return api.Value{Kind: api.KId, S: s} }

func given(cat int, name string, bag ...api.Value) api.Given {
	return api.Given{Cat: cat, Name: name, Bag: bag}
}

// x is a request of case.x alone.
func x(bag ...api.Value) []api.Given { return []api.Given{given(api.CCase, "x", bag...)} }

func attr(cat int, name string) api.Attr { return api.Attr{Cat: cat, Name: name} }

// is is a match of that attribute with a number.
func is(name string, n int) api.Match {
	return api.Match{Attr: attr(api.CCase, name), Op: api.MEq, Value: whole(n)}
}

// must is the same match of an attribute that must be there.
func must(m api.Match) api.Match {
	m.Attr.Must = true
	return m
}

// by is the same match by another Op.
func by(op int, m api.Match) api.Match {
	m.Op = op
	return m
}

func lit(v api.Value) []api.Node { return []api.Node{{Op: api.NLit, Value: v}} }
func of(a api.Attr) []api.Node   { return []api.Node{{Op: api.NAttr, Attr: a}} }

// do puts an Op behind what it is of.
func do(op int, of ...[]api.Node) []api.Node {
	return append(slices.Concat(of...), api.Node{Op: op})
}

func duty(on int, arg string) api.Obl { return api.Obl{On: on, Kind: api.OLog, Arg: arg} }

// own are duties on both decisions, that a name tells from others.
func own(name string) []api.Obl {
	return []api.Obl{duty(1, "p"+name), duty(2, "d"+name), {On: 2, Kind: api.ONotify, Arg: "e" + name}, {On: 1, Kind: api.ORedact, Arg: "q" + name}}
}

func simple(name string, alg int, l ...api.Rule) api.Policy {
	return api.Policy{Id: name, Alg: alg, Rules: l, Obls: own(name)}
}

func set(name string, alg int, l ...api.Policy) api.Policy {
	return api.Policy{Id: name, Set: true, Alg: alg, Kids: l, Obls: own(name)}
}

// under is the same policy for others.
func under(t api.Target, p api.Policy) api.Policy {
	p.Target = t
	return p
}

// all is the target of one AllOf.
func all(l ...api.Match) api.Target { return api.Target{{l}} }

func algorithms() []int {
	return []int{api.DenyOverrides, api.PermitOverrides, api.FirstApplicable, api.OnlyOne, api.DenyUnless, api.PermitUnless}
}

func six() []api.Mark {
	return []api.Mark{api.NotApplicable, api.Permit, api.Deny, api.IndetP, api.IndetD, api.IndetDP}
}

// rows are all rows of so many of what is there.
func rows[T any](of []T, n int) [][]T {
	l := [][]T{nil}
	for range n {
		var longer [][]T
		for _, row := range l {
			for _, v := range of {
				longer = append(longer, append(slices.Clone(row), v))
			}
		}
		l = longer
	}
	return l
}

func read(t *testing.T, s string) api.Policy {
	t.Helper()
	p, err, at := parse.Policy(s)
	if err != api.OK {
		t.Fatalf("%s: error %d at %d", s, err, at)
	}
	return p
}

// What is asked

func same(a, b api.Result) bool { return a.Mark == b.Mark && slices.Equal(a.Obls, b.Obls) }

// told is a result as text: two that say the same have the same one, and no others.
func told(r api.Result) string {
	s := mark.Name(r.Mark)
	for _, o := range r.Obls {
		s += " " + strconv.Itoa(o.On) + "/" + strconv.Itoa(o.Kind) + " " + o.Arg
	}
	return s
}

// brief is a thing as text, cut where nobody would read on.
func brief(x any) string {
	s := fmt.Sprintf("%+v", x)
	return s[:min(len(s), 2000)]
}

func hasKey(t *testing.T, what string, l api.Target, want api.Match) {
	t.Helper()
	if m, ok := index.Key(l); m != want || !ok {
		t.Fatalf("%s: %s: %s, %t, not %s", what, brief(l), brief(m), ok, brief(want))
	}
}

func noKey(t *testing.T, what string, l api.Target) {
	t.Helper()
	if m, ok := index.Key(l); m != (api.Match{}) || ok {
		t.Fatalf("%s: %s: %s, %t", what, brief(l), brief(m), ok)
	}
}

func picks(t *testing.T, what string, kids []api.Policy, g []api.Given, want ...int) {
	t.Helper()
	if l := index.Pick(kids, g); !slices.Equal(l, want) {
		t.Fatalf("%s: %s of %s: %s, not %s", what, brief(kids), brief(g), brief(l), brief(want))
	}
}

// decided is what the policy comes to as it stands.
func decided(t *testing.T, p api.Policy, g []api.Given) api.Result {
	t.Helper()
	r, err := eval.Policy(p, g)
	if err != api.OK {
		t.Fatalf("%s: error %d", brief(p), err)
	}
	return r
}

func comes(t *testing.T, what string, p api.Policy, g []api.Given, want api.Result) {
	t.Helper()
	if r, err := index.Decide(p, g); !same(r, want) || err != api.OK {
		t.Fatalf("%s: %s of %s: %s, error %d, not %s", what, brief(p), brief(g), told(r), err, told(want))
	}
}

// asItStands wants of the index what the policy comes to without it.
func asItStands(t *testing.T, what string, p api.Policy, g []api.Given) api.Result {
	t.Helper()
	want := decided(t, p, g)
	comes(t, what, p, g, want)
	return want
}

func refused(t *testing.T, what string, p api.Policy, g []api.Given) {
	t.Helper()
	if r, err := index.Decide(p, g); r.Mark != 0 || len(r.Obls) != 0 || err != api.ErrArg {
		t.Fatalf("%s: of %s: %s, error %d", what, brief(g), told(r), err)
	}
}
