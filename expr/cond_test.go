package expr_test

import (
	"slices"
	"testing"

	"bailiff/api"
	"bailiff/expr"
)

// P12.2

func conds(t *testing.T, what string, l []api.Node, g []api.Given, want int) {
	t.Helper()
	if got := expr.Cond(l, g); got != want {
		t.Fatalf("%s: %+v of %+v: %d, not %d", what, l, g, got, want)
	}
}

func TestCond(t *testing.T) {
	for _, g := range [][]api.Given{nil, {}, x(boolean(0)), around()} {
		conds(t, "nil", nil, g, 2)
		conds(t, "empty", []api.Node{}, g, 2)
		conds(t, "empty, with room behind", lit(boolean(0))[:0], g, 2)
		conds(t, "true", lit(boolean(1)), g, 2)
		conds(t, "false", lit(boolean(0)), g, 0)
	}
	conds(t, "a bag's true", one(of("x")), x(boolean(1)), 2)
	conds(t, "a bag's false", one(of("x")), x(boolean(0)), 0)
	conds(t, "made true", numbers(api.NLess, 1, 2), nil, 2)
	conds(t, "made false", numbers(api.NLess, 2, 1), nil, 0)
	conds(t, "decided true", do(api.NOr, one(of("x")), lit(boolean(1))), nil, 2)
	conds(t, "decided false", do(api.NAnd, one(of("x")), lit(boolean(0))), nil, 0)
}

func TestCondOfWhatIsNotKnown(t *testing.T) {
	for _, v := range goodValues() {
		if v.Kind != api.KBool {
			conds(t, "no truth", lit(v), nil, 1)
			conds(t, "no truth in the bag", one(of("x")), x(v), 1)
		}
	}
	// A truth that isn't right is none of the two.
	for _, v := range badValues() {
		conds(t, "what isn't right", one(of("x")), x(v), 1)
	}
	for _, m := range mistakes() {
		conds(t, "an error", m.l, around(), 1)
		conds(t, "not, of an error", do(api.NNot, m.l), around(), 1)
		conds(t, "an error, and true", do(api.NAnd, m.l, lit(boolean(1))), around(), 1)
		conds(t, "false, or an error", do(api.NOr, lit(boolean(0)), m.l), around(), 1)
		conds(t, "an error, and false", do(api.NAnd, m.l, lit(boolean(0))), around(), 0)
		conds(t, "true, or an error", do(api.NOr, lit(boolean(1)), m.l), around(), 2)
	}
	for _, l := range slices.Concat(badShapes(), badNodes()) {
		conds(t, "no expression", l, x(boolean(1)), 1)
	}
}
