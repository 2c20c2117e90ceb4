package expr_test

import (
	"cmp"
	"slices"
	"testing"

	"bailiff/api"
	"bailiff/ask"
	"bailiff/expr"
	"bailiff/fun"
	"bailiff/policy"
)

// P12.1 to P12.3 of mixed expressions, reckoned beside from above down, where the program goes from below up.

// tree is a node with what it is of.
type tree struct {
	node api.Node
	of   []tree
}

func (t tree) row() []api.Node {
	var l []api.Node
	for _, o := range t.of {
		l = append(l, o.row()...)
	}
	return append(l, t.node)
}

// bag is what an attribute comes to.
func (t tree) bag(g []api.Given) ([]api.Value, api.Errno) { return ask.Get(g, t.node.Attr) }

// value is what any other node comes to, by the words of P12.1.
func (t tree) value(g []api.Given) (api.Value, api.Errno) {
	switch t.node.Op {
	case api.NLit:
		return t.node.Value, api.OK
	case api.NOne:
		bag, err := t.of[0].bag(g)
		if err == api.OK && len(bag) != 1 {
			err = api.ErrMissing
		}
		if err != api.OK {
			return api.Value{}, err
		}
		return bag[0], api.OK
	case api.NSize:
		bag, err := t.of[0].bag(g)
		return unless(err, whole(len(bag)))
	case api.NHas:
		bag, err := t.of[0].bag(g)
		v, other := t.of[1].value(g)
		return unless(cmp.Or(err, other), truth(has(bag, v)))
	case api.NNot:
		v, err := t.of[0].value(g)
		if err != api.OK {
			return api.Value{}, err
		}
		return fun.Call(api.NNot, v)
	}
	a, first := t.of[0].value(g)
	b, second := t.of[1].value(g)
	return ofTwo(t.node.Op, thing{want: a, err: first}, thing{want: b, err: second})
}

func unless(err api.Errno, v api.Value) (api.Value, api.Errno) {
	if err != api.OK {
		return api.Value{}, err
	}
	return v, api.OK
}

// maker makes mixed things, the same each time.
type maker struct{ x uint64 }

func (m *maker) n(below int) int {
	m.x = m.x*6364136223846793005 + 1442695040888963407
	return int(m.x >> 33 % uint64(below))
}

func pick[T any](m *maker, l []T) T { return l[m.n(len(l))] }

// tree is of so many nodes, and mostly a truth or a number, as is asked: else hardly anything would come of it but ErrType.
func (m *maker) tree(nodes int, truth bool) tree {
	if m.n(20) == 0 {
		truth = !truth
	}
	switch {
	case nodes == 1:
		return m.leaf(truth)
	case nodes == 2 && m.n(4) > 0:
		return tree{api.Node{Op: m.ofBag(truth)}, []tree{m.attr(truth)}}
	case nodes == 2 || truth && m.n(6) == 0:
		return tree{api.Node{Op: api.NNot}, []tree{m.tree(nodes-1, true)}}
	case truth && m.n(6) == 0:
		in := m.n(3) == 0
		return tree{api.Node{Op: api.NHas}, []tree{m.attr(in), m.tree(nodes-2, in)}}
	}
	op, truths := m.ofTwo(truth)
	left := 1 + m.n(nodes-2)
	return tree{api.Node{Op: op}, []tree{m.tree(left, truths), m.tree(nodes-1-left, truths)}}
}

func (m *maker) ofBag(truth bool) int {
	if truth || m.n(2) == 0 {
		return api.NOne
	}
	return api.NSize
}

// ofTwo is an Op that makes a truth or a number, and whether it is of truths.
func (m *maker) ofTwo(truth bool) (int, bool) {
	if !truth {
		return pick(m, []int{api.NAdd, api.NSub, api.NMul}), false
	}
	op := pick(m, []int{api.NEq, api.NEq, api.NLess, api.NAnd, api.NAnd, api.NAnd, api.NOr, api.NOr, api.NOr})
	return op, op == api.NAnd || op == api.NOr || op == api.NEq && m.n(2) == 0
}

func (m *maker) leaf(truth bool) tree {
	v := pick(m, likes()[1])
	switch {
	case m.n(20) == 0:
		v = pick(m, goodValues())
	case truth:
		v = boolean(m.n(2))
	}
	return tree{node: lit(v)[0]}
}

func (m *maker) attr(truth bool) tree {
	name := "number"
	if truth {
		name = "truth"
	}
	return tree{node: attr(1+m.n(4), name, m.n(4) == 0)[0]}
}

// request has attributes more than once, and values that aren't right, now and then.
func (m *maker) request() []api.Given {
	var l []api.Given
	for range 4 + m.n(12) {
		g, like := given(1+m.n(4), "truth"), likes()[0]
		if m.n(2) == 0 {
			g.Name, like = "number", likes()[1]
		}
		if m.n(10) == 0 {
			like = badValues()
		}
		for range pick(m, []int{0, 1, 1, 1, 1, 2, maxBag}) {
			g.Bag = append(g.Bag, pick(m, like))
		}
		l = append(l, g)
	}
	return l
}

func TestMixedExpressions(t *testing.T) {
	counts := map[api.Errno]int{}
	truths := map[api.Value]int{}
	for i := range 40000 {
		m := maker{x: uint64(i)}
		nodes := 1 + i%(maxExpr+2)
		made := m.tree(nodes, m.n(3) > 0)
		l, g := made.row(), m.request()
		if nodes > maxExpr {
			fails(t, "too many", l, g, api.ErrArg)
			continue
		}
		want, err := made.value(g)
		are(t, "a mixed one", l, g, want, err)
		counts[err]++
		truths[want]++
	}
	// Without enough of each the row would say little.
	for _, n := range []int{counts[api.ErrArg], counts[api.ErrType], counts[api.ErrOver], counts[api.ErrMissing], truths[boolean(0)], truths[boolean(1)], counts[api.OK] - truths[boolean(0)] - truths[boolean(1)]} {
		if n < 300 {
			t.Error(counts, truths[boolean(0)], truths[boolean(1)])
		}
	}
}

// Nodes left out, put in, or exchanged: just those that policy.Expr takes come to anything.
func TestMixedWrongExpressions(t *testing.T) {
	for i := range 20000 {
		m := maker{x: uint64(i)}
		l, g := m.tree(1+m.n(maxExpr), true).row(), m.request()
		at, from := m.n(len(l)), m.n(len(l))
		switch i % 4 {
		case 0:
			l = slices.Delete(l, at, at+1)
		case 1:
			l = slices.Insert(l, at, l[from])
		case 2:
			l[at], l[from] = l[from], l[at]
		case 3:
			l[at].Op += m.n(3) - 1
		}
		if len(l) == 0 || policy.Expr(l) != api.OK {
			v, err := expr.Value(l, g)
			if v != (api.Value{}) || err != api.ErrArg {
				t.Fatalf("%+v: %+v, error %d", l, v, err)
			}
		} else if _, err := expr.Value(l, g); err == api.ErrArg && !anyBad(g) {
			t.Fatalf("%+v of %+v: ErrArg", l, g)
		}
	}
}

// anyBad tells a request by whose values alone a right expression may come to ErrArg.
func anyBad(g []api.Given) bool {
	return slices.ContainsFunc(g, func(h api.Given) bool {
		return slices.ContainsFunc(h.Bag, func(v api.Value) bool { return slices.Contains(badValues(), v) })
	})
}

// P12.3: put in the place of a part that doesn't matter, no error and no value changes what comes of the whole.
func TestWhatDoesNotMatter(t *testing.T) {
	for i := range 4000 {
		m := maker{x: uint64(i)}
		part, other, g := m.tree(1+m.n(10), true), m.tree(1+m.n(10), m.n(2) == 0), m.request()
		want, err := part.value(g)
		if err != api.OK || want.Kind != api.KBool || want.N != 0 && want.N != 1 || want.S != "" {
			continue
		}
		op := []int{api.NAnd, api.NOr}[want.N]
		comes(t, "decided ahead", do(op, part.row(), other.row()), g, want)
		comes(t, "decided behind", do(op, other.row(), part.row()), g, want)
		inner := tree{api.Node{Op: op}, []tree{other, part}}
		whole := tree{api.Node{Op: pick(&m, pairs())}, []tree{inner, m.tree(3, true)}}
		same := tree{whole.node, []tree{part, whole.of[1]}}
		v, e := same.value(g)
		are(t, "decided within", whole.row(), g, v, e)
	}
}
