package expr_test

import (
	"math"
	"slices"
	"strings"
	"testing"

	"bailiff/api"
	"bailiff/expr"
)

// P12.1: expressions that are empty, or not OK for policy.Expr

func TestEmptyExpressions(t *testing.T) {
	for _, l := range [][]api.Node{nil, {}, lit(boolean(1))[:0], make([]api.Node, 0, 9)} {
		for _, g := range [][]api.Given{nil, x(boolean(1)), around()} {
			refused(t, "empty", l, g, 2)
		}
	}
}

// refused asks for ErrArg, and for what Cond makes of it.
func refused(t *testing.T, what string, l []api.Node, g []api.Given, cond int) {
	t.Helper()
	v, err := expr.Value(l, g)
	if v != (api.Value{}) || err != api.ErrArg {
		t.Fatalf("%s: %+v: %+v, error %d", what, l, v, err)
	}
	if got := expr.Cond(l, g); got != cond {
		t.Fatalf("%s: %+v: Cond %d, not %d", what, l, got, cond)
	}
}

// plain is a node of an Op that bears what it must.
func plain(op int) api.Node {
	switch op {
	case api.NLit:
		return lit(boolean(1))[0]
	case api.NAttr:
		return of("x")[0]
	}
	return api.Node{Op: op}
}

// badShapes are rows of which each node is as it must be: what stands ahead of one, or what is left, isn't.
func badShapes() [][]api.Node {
	const l, a, one, size, has, not, and = api.NLit, api.NAttr, api.NOne, api.NSize, api.NHas, api.NNot, api.NAnd
	var out [][]api.Node
	for _, ops := range [][]int{
		{one}, {size}, {has}, {not}, {and}, {l, and}, {a, and}, {l, has}, {a, has},
		{l, one}, {l, size}, {l, l, has}, {l, a, has}, {a, a, has}, {a, not}, {a, l, and}, {l, a, and}, {a, a, and}, {a, one, one}, {a, size, size},
		{a}, {a, a}, {a, l}, {l, a}, {l, l}, {l, l, l}, {a, one, l}, {l, l, l, and}, {a, l, l, and}, {l, and, l}, {and, l, l}, {not, l}, {one, a},
	} {
		var row []api.Node
		for _, op := range ops {
			row = append(row, plain(op))
		}
		out = append(out, row)
	}
	return out
}

// badNodes are expressions in which one node may not be, whatever stands about it.
func badNodes() [][]api.Node {
	var out [][]api.Node
	for _, op := range []int{0, -1, 14, 15, -13, 1 << 8, 1<<8 + 1, 1<<32 + 1, math.MaxInt, math.MinInt, math.MinInt + 1} {
		out = append(out, []api.Node{{Op: op}}, do(op, lit(boolean(1))), do(op, lit(boolean(1)), lit(boolean(1))), do(op, of("x")), []api.Node{{Op: op, Value: boolean(1)}})
	}
	for _, v := range badValues() {
		out = append(out, lit(v))
	}
	for _, a := range []api.Attr{{}, {Must: true}, {Cat: api.CCase}, {Name: "x"}, {Cat: 5, Name: "x"}, {Cat: -1, Name: "x"}, {Cat: 1<<8 + 1, Name: "x"}, {Cat: api.CCase, Name: "X"}, {Cat: api.CCase, Name: "9x"}, {Cat: api.CCase, Name: strings.Repeat("x", 17)}} {
		out = append(out, one(attr(a.Cat, a.Name, a.Must)))
	}
	return append(out, bearing()...)
}

// bearing are right ones but for a node that has a Value or an Attr it has no use for.
func bearing() [][]api.Node {
	yes := lit(boolean(1))
	right := [][]api.Node{one(of("x")), size(of("x")), do(api.NHas, of("x"), yes), do(api.NNot, yes)}
	for _, op := range pairs() {
		right = append(right, do(op, yes, yes))
	}
	var out [][]api.Node
	for _, l := range right {
		for i, n := range l {
			if n.Op != api.NLit {
				out = append(out, slices.Clone(l), slices.Clone(l))
				out[len(out)-2][i].Value, out[len(out)-1][i].Value = boolean(1), api.Value{S: "a"}
			}
			if n.Op != api.NAttr {
				out = append(out, slices.Clone(l), slices.Clone(l))
				out[len(out)-2][i].Attr, out[len(out)-1][i].Attr = of("x")[0].Attr, api.Attr{Must: true}
			}
		}
	}
	return out
}

func TestWrongExpressions(t *testing.T) {
	for _, g := range [][]api.Given{nil, x(boolean(1)), around()} {
		for _, l := range slices.Concat(badShapes(), badNodes()) {
			refused(t, "wrong", l, g, 1)
			refused(t, "wrong within", do(api.NNot, l), g, 1)
		}
	}
}

// All of it is looked at ahead of any part: neither what decides nor another error comes first.
func TestWrongIsToldFirst(t *testing.T) {
	for _, l := range badNodes() {
		for _, with := range [][]api.Node{lit(boolean(0)), lit(boolean(1)), one(of("none")), numbers(api.NAdd, math.MaxInt, 1), do(api.NNot, lit(whole(1)))} {
			for _, op := range pairs() {
				refused(t, "wrong behind", do(op, with, l), x(boolean(1)), 1)
				refused(t, "wrong ahead", do(op, l, with), x(boolean(1)), 1)
			}
		}
	}
}

func TestTooManyNodes(t *testing.T) {
	for _, n := range []int{maxExpr + 1, maxExpr + 2, 64, 255, 256, 257, 288, 1 << 16} {
		nots := lit(boolean(1))
		for len(nots) < n {
			nots = append(nots, api.Node{Op: api.NNot})
		}
		refused(t, "too many", nots, nil, 1)
		refused(t, "too many literals", slices.Repeat(lit(boolean(1)), n), nil, 1)
		refused(t, "too many attributes", slices.Repeat(of("x"), n), nil, 1)
		refused(t, "too many of nothing", make([]api.Node, n), nil, 1)
	}
}
