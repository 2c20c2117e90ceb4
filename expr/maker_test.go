package expr_test

import (
	"math"
	"slices"
	"strings"
	"testing"

	"bailiff/api"
	"bailiff/expr"
)

// The limits as the document's page has them.
const (
	maxText = 64
	maxBag  = 16
	maxTick = 1 << 40
	maxExpr = 32
)

func boolean(n int) api.Value { return api.Value{Kind: api.KBool, N: n} }
func whole(n int) api.Value   { return api.Value{Kind: api.KInt, N: n} }
func text(s string) api.Value { return api.Value{Kind: api.KText, S: s} }
func tick(n int) api.Value    { return api.Value{Kind: api.KTick, N: n} }
func id(s string) api.Value   { return api.Value{Kind: api.KId, S: s} }

func truth(so bool) api.Value {
	if so {
		return boolean(1)
	}
	return boolean(0)
}

func wholes(l ...int) []api.Value {
	var bag []api.Value
	for _, n := range l {
		bag = append(bag, whole(n))
	}
	return bag
}

// likes are some values of each kind, those at the ends among them.
func likes() [][]api.Value {
	return [][]api.Value{
		{boolean(0), boolean(1)},
		{whole(0), whole(1), whole(-1), whole(7), whole(math.MinInt), whole(math.MaxInt)},
		{text(""), text("a"), text("1"), text("true"), text(strings.Repeat("\xff", maxText))},
		{tick(0), tick(1), tick(maxTick)},
		{id("a"), id("true"), id("abcdefghijklmnop")},
	}
}

func goodValues() []api.Value { return slices.Concat(likes()...) }

// badValues are wrong each for a reason of its own; some of them are like truths.
func badValues() []api.Value {
	return []api.Value{
		{}, {N: 1}, {S: "a"}, {Kind: 6}, {Kind: -1}, boolean(2), boolean(-1), {Kind: api.KBool, S: "x"}, {Kind: api.KBool, N: 1, S: "x"}, {Kind: api.KInt, S: "x"},
		{Kind: api.KText, N: 1}, text(strings.Repeat("a", maxText+1)), tick(-1), tick(maxTick + 1), {Kind: api.KTick, S: "x"},
		id(""), id("Ann"), id("abcdefghijklmnopq"), {Kind: api.KId, S: "a", N: 1},
	}
}

func given(cat int, name string, bag ...api.Value) api.Given {
	return api.Given{Cat: cat, Name: name, Bag: bag}
}

// x is a request of case.x alone.
func x(bag ...api.Value) []api.Given { return []api.Given{given(api.CCase, "x", bag...)} }

// Expressions

func lit(v api.Value) []api.Node { return []api.Node{{Op: api.NLit, Value: v}} }

func attr(cat int, name string, must bool) []api.Node {
	return []api.Node{{Op: api.NAttr, Attr: api.Attr{Cat: cat, Name: name, Must: must}}}
}

func of(name string) []api.Node   { return attr(api.CCase, name, false) }
func must(name string) []api.Node { return attr(api.CCase, name, true) }

// do puts an Op behind what it is of.
func do(op int, of ...[]api.Node) []api.Node {
	return append(slices.Concat(of...), api.Node{Op: op})
}

func one(l []api.Node) []api.Node  { return do(api.NOne, l) }
func size(l []api.Node) []api.Node { return do(api.NSize, l) }

// numbers is an Op of two of them.
func numbers(op, a, b int) []api.Node { return do(op, lit(whole(a)), lit(whole(b))) }

// pairs are the Ops of two values.
func pairs() []int {
	return []int{api.NEq, api.NLess, api.NAdd, api.NSub, api.NMul, api.NAnd, api.NOr}
}

// What comes of them

// condition is P12.2's answer of an expression that isn't empty.
func condition(v api.Value, err api.Errno) int {
	switch {
	case err != api.OK:
		return 1
	case v == boolean(1):
		return 2
	case v == boolean(0):
		return 0
	}
	return 1
}

// are asks for the value or the error, and for what Cond makes of it.
func are(t *testing.T, what string, l []api.Node, g []api.Given, want api.Value, wanted api.Errno) {
	t.Helper()
	v, err := expr.Value(l, g)
	if v != want || err != wanted {
		t.Fatalf("%s: %+v of %+v: %+v, error %d, not %+v, error %d", what, l, g, v, err, want, wanted)
	}
	if got, wants := expr.Cond(l, g), condition(want, wanted); got != wants {
		t.Fatalf("%s: %+v of %+v: Cond %d, not %d", what, l, g, got, wants)
	}
}

func comes(t *testing.T, what string, l []api.Node, g []api.Given, want api.Value) {
	t.Helper()
	are(t, what, l, g, want, api.OK)
}

func fails(t *testing.T, what string, l []api.Node, g []api.Given, want api.Errno) {
	t.Helper()
	are(t, what, l, g, api.Value{}, want)
}

// thing is an expression, and what must come of it over the request of things.
type thing struct {
	l    []api.Node
	want api.Value
	err  api.Errno
}

// around is the request of things: case.bada and so on are values that aren't right, alone in their bags.
func around() []api.Given {
	l := []api.Given{
		given(api.CCase, "none"),
		given(api.CCase, "alone", whole(7)),
		given(api.CCase, "several", whole(1), whole(2)),
		given(api.CCase, "yes", boolean(1)),
		given(api.CCase, "no", boolean(0)),
	}
	for i, v := range badValues() {
		l = append(l, given(api.CCase, badName(i), v))
	}
	return l
}

func badName(i int) string { return "bad" + string(rune('a'+i)) }

// bad is of one of the values that aren't right.
func bad(v api.Value) []api.Node { return one(of(badName(slices.Index(badValues(), v)))) }

// things are a value of each kind, values that aren't right, and each error, each come by in several ways.
func things() []thing {
	var l []thing
	for _, v := range goodValues() {
		l = append(l, thing{l: lit(v), want: v})
	}
	for _, v := range badValues() {
		l = append(l, thing{l: bad(v), want: v})
	}
	l = append(l,
		thing{l: one(of("alone")), want: whole(7)},
		thing{l: one(must("yes")), want: boolean(1)},
		thing{l: do(api.NNot, one(must("yes"))), want: boolean(0)},
		thing{l: size(of("none")), want: whole(0)},
		thing{l: do(api.NHas, must("several"), lit(whole(2))), want: boolean(1)},
	)
	return append(l, mistakes()...)
}

// mistakes are each error in several ways.
func mistakes() []thing {
	return []thing{
		{l: one(of("none")), err: api.ErrMissing},
		{l: one(of("several")), err: api.ErrMissing},
		{l: size(must("none")), err: api.ErrMissing},
		{l: do(api.NHas, must("other"), lit(boolean(1))), err: api.ErrMissing},
		{l: numbers(api.NAdd, math.MaxInt, 1), err: api.ErrOver},
		{l: do(api.NEq, numbers(api.NMul, math.MinInt, -1), lit(whole(0))), err: api.ErrOver},
		{l: do(api.NNot, lit(whole(0))), err: api.ErrType},
		{l: do(api.NLess, lit(boolean(0)), lit(boolean(1))), err: api.ErrType},
		{l: do(api.NNot, bad(boolean(2))), err: api.ErrArg},
		{l: do(api.NAdd, bad(api.Value{Kind: api.KInt, S: "x"}), lit(whole(1))), err: api.ErrArg},
	}
}
