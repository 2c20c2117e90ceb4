package compile_test

import (
	"slices"
	"strconv"
	"testing"

	"bailiff/api"
	"bailiff/compile"
	"bailiff/eval"
	"bailiff/mark"
	"bailiff/parse"
	"bailiff/vars"
)

// The limits as the document's page and the chapter have them.
const (
	maxExpr   = 32
	maxMatch  = 8
	maxObls   = 8
	maxKids   = 16
	maxDeep   = 4
	maxAll    = 64
	maxVars   = 64
	maxDag    = 2000
	mostOfSix = 364
)

func boolean(n int) api.Value { return api.Value{Kind: api.KBool, N: n} }
func whole(n int) api.Value   { return api.Value{Kind: api.KInt, N: n} }
func text(s string) api.Value { return api.Value{Kind: api.KText, S: s} }
func tick(n int) api.Value    { return api.Value{Kind: api.KTick, N: n} }

func given(cat int, name string, bag ...api.Value) api.Given {
	return api.Given{Cat: cat, Name: name, Bag: bag}
}

// x is a request of case.x alone.
func x(bag ...api.Value) []api.Given { return []api.Given{given(api.CCase, "x", bag...)} }

func lit(v api.Value) []api.Node { return []api.Node{{Op: api.NLit, Value: v}} }
func of(a api.Attr) []api.Node   { return []api.Node{{Op: api.NAttr, Attr: a}} }

// do puts an Op behind what it is of.
func do(op int, of ...[]api.Node) []api.Node {
	return append(slices.Concat(of...), api.Node{Op: op})
}

// Atoms by number, each of an attribute of its own, so that a request can answer them one by one

func numbered(i int) api.Attr { return api.Attr{Cat: api.CCase, Name: "a" + strconv.Itoa(i)} }
func asks(i int) api.Match    { return api.Match{Attr: numbered(i), Op: api.MEq, Value: whole(1)} }
func cond(i int) []api.Node   { return do(api.NEq, do(api.NOne, of(numbered(i))), lit(whole(1))) }

// allOf is the target of one AllOf with these matches.
func allOf(l ...int) api.Target {
	var all []api.Match
	for _, i := range l {
		all = append(all, asks(i))
	}
	return api.Target{{all}}
}

// answering is a request by which each of these atoms is answered so.
func answering(l []api.Atom, row []int) []api.Given {
	var g []api.Given
	for i, a := range l {
		name := a.Match.Attr.Name
		for _, n := range a.Cond {
			name += n.Attr.Name
		}
		g = append(g, given(api.CCase, name, []api.Value{whole(2), text("odd"), whole(1)}[row[i]]))
	}
	return g
}

func duty(on int, arg string) api.Obl { return api.Obl{On: on, Kind: api.OLog, Arg: arg} }

func simple(id string, alg int, l ...api.Rule) api.Policy {
	return api.Policy{Id: id, Alg: alg, Rules: l}
}

func set(id string, alg int, l ...api.Policy) api.Policy {
	return api.Policy{Id: id, Set: true, Alg: alg, Kids: l}
}

func algorithms() []int {
	return []int{api.DenyOverrides, api.PermitOverrides, api.FirstApplicable, api.OnlyOne, api.DenyUnless, api.PermitUnless}
}

func read(t *testing.T, s string) api.Policy {
	t.Helper()
	p, err, at := parse.Policy(s)
	if err != api.OK {
		t.Fatalf("%s: error %d at %d", s, err, at)
	}
	return p
}

// What is asked

func same(a, b api.Result) bool { return a.Mark == b.Mark && slices.Equal(a.Obls, b.Obls) }

// told is a result as text: two that say the same have the same one, and no others.
func told(r api.Result) string {
	s := mark.Name(r.Mark)
	for _, o := range r.Obls {
		s += " " + strconv.Itoa(o.On) + "/" + strconv.Itoa(o.Kind) + " " + o.Arg
	}
	return s
}

func atoms(t *testing.T, p api.Policy) []api.Atom {
	t.Helper()
	l, err := vars.Of(p)
	if err != api.OK {
		t.Fatalf("%+v: error %d", p, err)
	}
	return l
}

// diagram wants one.
func diagram(t *testing.T, what string, p api.Policy) *compile.Diagram {
	t.Helper()
	d, err := compile.Of(p)
	if d == nil || err != api.OK {
		t.Fatalf("%s: %+v: diagram %t, error %d", what, p, d != nil, err)
	}
	return d
}

// refused wants an error, and no diagram beside it.
func refused(t *testing.T, what string, p api.Policy, want api.Errno) {
	t.Helper()
	if d, err := compile.Of(p); d != nil || err != want {
		t.Fatalf("%s: diagram %t, error %d, not %d", what, d != nil, err, want)
	}
}

// decided is what the policy comes to as it stands.
func decided(t *testing.T, p api.Policy, g []api.Given) api.Result {
	t.Helper()
	r, err := eval.Policy(p, g)
	if err != api.OK {
		t.Fatalf("%+v: error %d", p, err)
	}
	return r
}

// decides wants of the package what the policy comes to, be there a diagram or not.
func decides(t *testing.T, what string, p api.Policy, g []api.Given, want api.Result) {
	t.Helper()
	if r, err := compile.Decide(p, g); !same(r, want) || err != api.OK {
		t.Fatalf("%s: %+v of %+v: %s, error %d, not %s", what, p, g, told(r), err, told(want))
	}
}

// comes wants of a diagram that, and so many atoms asked.
func comes(t *testing.T, what string, d *compile.Diagram, g []api.Given, want api.Result, asked int) {
	t.Helper()
	if r, n := d.Decide(g); !same(r, want) || n != asked {
		t.Fatalf("%s: of %+v: %s, asked %d, not %s, asked %d", what, g, told(r), n, told(want), asked)
	}
}

func answers(t *testing.T, what string, d *compile.Diagram, row []int, want api.Result) {
	t.Helper()
	if r := d.Answer(row); !same(r, want) {
		t.Fatalf("%s: by %v: %s, not %s", what, row, told(r), told(want))
	}
}

func sizes(t *testing.T, what string, d *compile.Diagram, want int) {
	t.Helper()
	if n := d.Size(); n != want {
		t.Fatalf("%s: %d branches, not %d", what, n, want)
	}
}
