package vars_test

import (
	"fmt"
	"slices"
	"strings"
	"testing"

	"bailiff/api"
	"bailiff/parse"
	"bailiff/show"
	"bailiff/value"
	"bailiff/vars"
)

// The limits as the document's page has them.
const (
	maxExpr  = 32
	maxMatch = 8
	maxKids  = 16
	maxDeep  = 4
	maxAll   = 64
	maxVars  = 64
)

func boolean(n int) api.Value { return api.Value{Kind: api.KBool, N: n} }
func whole(n int) api.Value   { return api.Value{Kind: api.KInt, N: n} }
func text(s string) api.Value { return api.Value{Kind: api.KText, S: s} }
func tick(n int) api.Value    { return api.Value{Kind: api.KTick, N: n} }
func id(s string) api.Value   { return api.Value{Kind: api.KId, S: s} }

func given(cat int, name string, bag ...api.Value) api.Given {
	return api.Given{Cat: cat, Name: name, Bag: bag}
}

// x is a request of case.x alone.
func x(bag ...api.Value) []api.Given { return []api.Given{given(api.CCase, "x", bag...)} }

func attr(cat int, name string) api.Attr { return api.Attr{Cat: cat, Name: name} }
func must(cat int, name string) api.Attr { return api.Attr{Cat: cat, Name: name, Must: true} }

// asks is a match of case.x.
func asks(op int, v api.Value) api.Match {
	return api.Match{Attr: attr(api.CCase, "x"), Op: op, Value: v}
}

func lit(v api.Value) []api.Node { return []api.Node{{Op: api.NLit, Value: v}} }
func of(a api.Attr) []api.Node   { return []api.Node{{Op: api.NAttr, Attr: a}} }

// do puts an Op behind what it is of.
func do(op int, of ...[]api.Node) []api.Node {
	return append(slices.Concat(of...), api.Node{Op: op})
}

func ofMatch(m api.Match) api.Atom { return api.Atom{Match: m} }
func ofCond(l []api.Node) api.Atom { return api.Atom{Cond: l} }

func read(t *testing.T, s string) api.Policy {
	t.Helper()
	p, err, at := parse.Policy(s)
	if err != api.OK {
		t.Fatalf("%s: error %d at %d", s, err, at)
	}
	return p
}

// told is an atom of a right policy as it is written there.
func told(a api.Atom) string {
	if len(a.Cond) > 0 {
		return show.Expr(a.Cond)
	}
	return show.Attr(a.Match.Attr) + []string{"", " = ", " < ", " > "}[a.Match.Op] + value.Text(a.Match.Value)
}

func allTold(l []api.Atom) string {
	var out []string
	for _, a := range l {
		out = append(out, told(a))
	}
	return strings.Join(out, "; ")
}

// key tells any two atoms apart that aren't the same.
func key(a api.Atom) string { return fmt.Sprintf("%#v if %#v", a.Match, slices.Concat(a.Cond)) }

// once leaves of each atom only the first.
func once(l []api.Atom) []api.Atom {
	met := map[string]bool{}
	return slices.DeleteFunc(slices.Clone(l), func(a api.Atom) bool {
		k := key(a)
		defer func() { met[k] = true }()
		return met[k]
	})
}

func same(a, b []api.Atom) bool {
	return slices.EqualFunc(a, b, func(a, b api.Atom) bool { return a.Match == b.Match && slices.Equal(a.Cond, b.Cond) })
}

// atoms are those of a policy that has no more of them than may be.
func atoms(t *testing.T, p api.Policy) []api.Atom {
	t.Helper()
	l, err := vars.Of(p)
	if err != api.OK {
		t.Fatalf("%+v: error %d", p, err)
	}
	return l
}

func lists(t *testing.T, what string, p api.Policy, want ...api.Atom) {
	t.Helper()
	if l := atoms(t, p); !same(l, want) {
		t.Fatalf("%s: %+v: %s, not %s", what, p, allTold(l), allTold(want))
	}
}

func refused(t *testing.T, what string, p api.Policy, want api.Errno) {
	t.Helper()
	if l, err := vars.Of(p); len(l) != 0 || err != want {
		t.Fatalf("%s: %d atoms, error %d, not %d", what, len(l), err, want)
	}
}

func finds(t *testing.T, what string, l []api.Atom, a api.Atom, want int) {
	t.Helper()
	if got := vars.Find(l, a); got != want {
		t.Fatalf("%s: %+v of %+v: %d, not %d", what, a, l, got, want)
	}
}

func answers(t *testing.T, what string, a api.Atom, g []api.Given, want int) {
	t.Helper()
	if got := vars.Ask(a, g); got != want {
		t.Fatalf("%s: %+v of %+v: %d, not %d", what, a, g, got, want)
	}
}
