package policy_test

import (
	"cmp"
	"slices"
	"strconv"
	"testing"

	"bailiff/api"
	"bailiff/policy"
)

// P8.3

func lit(v api.Value) api.Node { return api.Node{Op: api.NLit, Value: v} }
func of(a api.Attr) api.Node   { return api.Node{Op: api.NAttr, Attr: a} }

// node is the plainest one of an Op, be there such an Op or not.
func node(op int) api.Node {
	switch op {
	case api.NLit:
		return lit(whole(1))
	case api.NAttr:
		return of(attr(api.CCase, "x"))
	}
	return api.Node{Op: op}
}

func row(ops ...int) []api.Node {
	l := []api.Node{}
	for _, op := range ops {
		l = append(l, node(op))
	}
	return l
}

// bears tells from the words of P8.3 whether a node has what it must have, and nothing beside.
func bears(n api.Node) bool {
	noValue, noAttr := n.Value == api.Value{}, n.Attr == api.Attr{}
	switch n.Op {
	case 1:
		return noAttr && !noValue && slices.Contains(goodValues(), n.Value)
	case 2:
		return noValue && slices.Contains(goodAttrs(), n.Attr)
	}
	return noValue && noAttr && n.Op > 2 && n.Op < 14
}

// ofRight is what a node is of, from the right to the left: true is a bag.
var ofRight = map[int][]bool{
	api.NOne: {true}, api.NSize: {true}, api.NHas: {false, true}, api.NNot: {false}, api.NEq: {false, false}, api.NLess: {false, false},
	api.NAdd: {false, false}, api.NSub: {false, false}, api.NMul: {false, false}, api.NAnd: {false, false}, api.NOr: {false, false},
}

// cut takes one whole expression off the end of a row, a bag or a value, and answers what stands ahead of it: a way that no stack is needed for.
func cut(l []api.Node, bag bool) ([]api.Node, bool) {
	if len(l) == 0 {
		return nil, false
	}
	n, ahead := l[len(l)-1], l[:len(l)-1]
	if !bears(n) || bag != (n.Op == api.NAttr) {
		return nil, false
	}
	for _, b := range ofRight[n.Op] {
		ok := false
		if ahead, ok = cut(ahead, b); !ok {
			return nil, false
		}
	}
	return ahead, true
}

func told(l []api.Node) api.Errno {
	if len(l) > maxExpr {
		return api.ErrLimit
	}
	if ahead, ok := cut(l, false); len(l) > 0 && (!ok || len(ahead) > 0) {
		return api.ErrArg
	}
	return api.OK
}

func asTold(t *testing.T, l []api.Node) {
	t.Helper()
	if got, want := policy.Expr(l), told(l); got != want {
		t.Fatalf("%+v: error %d, not %d", l, got, want)
	}
}

// operations are all that a node may be, two of them beside the bounds that may not be.
func operations() []int {
	return []int{0, api.NLit, api.NAttr, api.NOne, api.NSize, api.NHas, api.NEq, api.NLess, api.NAdd, api.NSub, api.NMul, api.NNot, api.NAnd, api.NOr, api.NOr + 1}
}

// pairs are the operations of two values.
func pairs() []int {
	return []int{api.NEq, api.NLess, api.NAdd, api.NSub, api.NMul, api.NAnd, api.NOr}
}

func TestExprRuns(t *testing.T) {
	owner, subject := of(attr(api.CCase, "owner")), of(attr(api.CSubject, "id"))
	is(t, "the first run", policy.Expr([]api.Node{owner, node(api.NOne), subject, node(api.NOne), node(api.NEq)}), api.OK)
	is(t, "the second run", policy.Expr([]api.Node{owner, lit(whole(1)), node(api.NEq)}), api.ErrArg)
	is(t, "nil", policy.Expr(nil), api.OK)
	is(t, "empty", policy.Expr([]api.Node{}), api.OK)
	is(t, "empty, with room behind", policy.Expr(row(api.NAttr, 0)[:0]), api.OK)
}

func TestEachOperation(t *testing.T) {
	const l, a, one, size, has, not = api.NLit, api.NAttr, api.NOne, api.NSize, api.NHas, api.NNot
	right := [][]int{{l}, {a, one}, {a, size}, {a, l, has}, {l, not}, {a, a, one, has}, {a, a, l, has, has}, {a, one, not}, {l, not, not}, {a, a, size, has}}
	wrong := [][]int{
		{a}, {one}, {size}, {has}, {not}, {l, one}, {l, size}, {l, has}, {a, has}, {l, l, has}, {l, a, has}, {a, a, has}, {a, not}, {a, one, one}, {a, size, one}, {a, one, size},
		{a, l, l, has}, {a, l, has, has}, {l, l}, {l, l, l}, {l, a}, {a, l}, {a, a}, {l, l, not}, {a, one, l}, {one, a}, {not, l}, {has, a, l}, {a, has, l},
	}
	for _, op := range pairs() {
		right = append(right, []int{l, l, op}, []int{a, one, l, op}, []int{l, a, size, op}, []int{l, l, op, l, op}, []int{l, l, l, op, op}, []int{a, l, l, op, has})
		wrong = append(wrong, []int{op}, []int{l, op}, []int{a, op}, []int{a, l, op}, []int{l, a, op}, []int{a, a, op}, []int{l, l, l, op}, []int{l, l, op, op}, []int{l, op, l}, []int{op, l, l}, []int{l, l, op, one}, []int{l, l, op, l, has})
	}
	for _, ops := range right {
		is(t, "a right one", policy.Expr(row(ops...)), api.OK)
		asTold(t, row(ops...))
	}
	for _, ops := range wrong {
		is(t, "a wrong one", policy.Expr(row(ops...)), api.ErrArg)
		asTold(t, row(ops...))
	}
}

func TestAllShortRows(t *testing.T) {
	var walk func(l []api.Node)
	walk = func(l []api.Node) {
		asTold(t, l)
		if len(l) == 5 {
			return
		}
		for _, op := range operations() {
			walk(append(l[:len(l):len(l)], node(op)))
		}
	}
	walk(nil)
}

func TestOtherOperations(t *testing.T) {
	for _, op := range outside(api.NLit, api.NOr) {
		for _, n := range []api.Node{{Op: op}, {Op: op, Value: whole(1)}, {Op: op, Attr: attr(api.CCase, "x")}} {
			one, two := node(api.NLit), node(api.NAttr)
			for _, l := range [][]api.Node{{n}, {one, n}, {n, one}, {two, n}, {one, one, n}, {n, one, node(api.NEq)}, {one, n, node(api.NEq)}, {one, one, node(api.NEq), n}, {two, two, n}, {n, node(api.NOne)}, {two, one, n}, {two, one, node(api.NHas), n}} {
				is(t, "no operation", policy.Expr(l), api.ErrArg)
			}
		}
	}
}

// rows are right ones in which each operation stands at several places.
func rows() [][]api.Node {
	const l, a, one, size, has, not = api.NLit, api.NAttr, api.NOne, api.NSize, api.NHas, api.NNot
	out := [][]api.Node{row(l), row(a, one), row(a, size, not), row(a, l, has, not), row(a, a, one, has), row(l, not, a, size, api.NEq)}
	for _, op := range pairs() {
		out = append(out, row(a, l, has, not, a, one, l, not, op, op), row(a, one, a, size, op, a, l, has, op, not))
	}
	return out
}

func TestValuesAndAttributesOfNodes(t *testing.T) {
	for _, l := range rows() {
		for i, n := range l {
			with := func(n api.Node) api.Errno {
				out := slices.Clone(l)
				out[i] = n
				return policy.Expr(out)
			}
			values, attrs := []api.Value{whole(1), {Kind: api.KInt}, {Kind: api.KBool}, {N: 1}, {S: "a"}, {Kind: -1}}, []api.Attr{attr(api.CCase, "x"), {Cat: 1}, {Cat: -1}, {Name: "a"}, {Must: true}}
			right := api.ErrArg
			if n.Op == api.NLit {
				right, values = api.OK, badValues()
				for _, v := range goodValues() {
					is(t, "a literal", with(lit(v)), api.OK)
				}
			}
			if n.Op == api.NAttr {
				attrs = badAttrs()
				for _, a := range goodAttrs() {
					is(t, "an attribute", with(of(a)), api.OK)
				}
			}
			for _, v := range values {
				is(t, "a node with such a Value", with(api.Node{Op: n.Op, Value: v, Attr: n.Attr}), api.ErrArg)
			}
			for _, a := range attrs {
				is(t, "a node with such an Attr", with(api.Node{Op: n.Op, Value: n.Value, Attr: a}), api.ErrArg)
			}
			is(t, "a node with both", with(api.Node{Op: n.Op, Value: whole(1), Attr: attr(api.CCase, "x")}), api.ErrArg)
			is(t, "a node with a Value alone", with(api.Node{Op: n.Op, Value: whole(1)}), right)
		}
	}
}

// expression is a right one of n nodes: which one, the row of numbers tells.
func expression(x *uint64, n int) []api.Node {
	const l, a, one, size, has, not = api.NLit, api.NAttr, api.NOne, api.NSize, api.NHas, api.NNot
	switch {
	case n == 1:
		return []api.Node{lit(goodValues()[next(x, len(goodValues()))])}
	case n == 2 && next(x, 2) == 0:
		return []api.Node{of(goodAttrs()[next(x, len(goodAttrs()))]), node([]int{one, size}[next(x, 2)])}
	case n == 2 || next(x, 4) == 0:
		return append(expression(x, n-1), node(not))
	case next(x, 4) == 0:
		return slices.Concat(row(a), expression(x, n-2), row(has))
	}
	left := 1 + next(x, n-2)
	return slices.Concat(expression(x, left), expression(x, n-1-left), row(pairs()[next(x, len(pairs()))]))
}

func TestMixedExpressions(t *testing.T) {
	x := uint64(3)
	for n := 1; n <= 40; n++ {
		for range 150 {
			l := expression(&x, n)
			is(t, strconv.Itoa(n)+" nodes", policy.Expr(l), limited(n, maxExpr))
			asTold(t, l)
			i, k := next(&x, n), next(&x, n)
			asTold(t, slices.Delete(slices.Clone(l), i, i+1))
			asTold(t, slices.Insert(slices.Clone(l), i, l[k]))
			asTold(t, l[:i])
			asTold(t, l[i:])
			l[i], l[k] = l[k], l[i]
			asTold(t, l)
			l[i] = node(operations()[next(&x, len(operations()))])
			asTold(t, l)
		}
	}
}

func TestMostNodes(t *testing.T) {
	const l, a, one, has, not, and = api.NLit, api.NAttr, api.NOne, api.NHas, api.NNot, api.NAnd
	// All of them have just MaxExpr nodes: parts behind one another, or within, few or many values and bags that wait.
	wide, deep, high, bags := row(l), row(l), row(), row()
	for len(wide) < maxExpr-1 {
		wide = append(wide, row(l, and)...)
	}
	wide = append(wide, row(not)...)
	for len(deep) < maxExpr {
		deep = append(deep, row(not)...)
	}
	for range maxExpr / 2 {
		high = append(high, row(l)...)
	}
	for len(high) < maxExpr-1 {
		high = append(high, row(and)...)
	}
	high = append(high, row(not)...)
	for range (maxExpr - 2) / 2 {
		bags = append(bags, row(a)...)
	}
	bags = append(bags, row(a, one)...)
	for len(bags) < maxExpr {
		bags = append(bags, row(has)...)
	}
	for i, full := range [][]api.Node{wide, deep, high, bags} {
		is(t, strconv.Itoa(i)+": just as many", policy.Expr(full), api.OK)
		is(t, strconv.Itoa(i)+": one more", policy.Expr(append(slices.Clip(full), node(not))), api.ErrLimit)
		is(t, strconv.Itoa(i)+": one more, and wrong", policy.Expr(append(slices.Clip(full), node(0))), api.ErrLimit)
		is(t, strconv.Itoa(i)+": one more ahead, and wrong", policy.Expr(append(row(0), full...)), api.ErrLimit)
		for place := range full {
			bad := slices.Clone(full)
			bad[place] = node(0)
			is(t, strconv.Itoa(i)+": wrong at "+strconv.Itoa(place), policy.Expr(bad), api.ErrArg)
			is(t, strconv.Itoa(i)+": one more behind what is wrong", policy.Expr(append(bad, node(not))), api.ErrLimit)
			asTold(t, slices.Delete(slices.Clone(full), place, place+1))
		}
	}
}

func TestManyNodes(t *testing.T) {
	for _, n := range []int{maxExpr, maxExpr + 1, maxExpr + 2, 64, 255, 256, 257, 288, 1 << 16, 1<<16 + 1} {
		want := cmp.Or(limited(n, maxExpr), api.ErrArg)
		is(t, strconv.Itoa(n)+" nodes of nothing", policy.Expr(make([]api.Node, n)), want)
		is(t, strconv.Itoa(n)+" literals", policy.Expr(slices.Repeat(row(api.NLit), n)), want)
		is(t, strconv.Itoa(n)+" attributes", policy.Expr(slices.Repeat(row(api.NAttr), n)), want)
		is(t, strconv.Itoa(n)+" ors", policy.Expr(slices.Repeat(row(api.NOr), n)), want)
	}
	for n := 2; n <= maxExpr; n++ {
		is(t, strconv.Itoa(n)+" values left", policy.Expr(slices.Repeat(row(api.NLit), n)), api.ErrArg)
		is(t, strconv.Itoa(n)+" bags left", policy.Expr(slices.Repeat(row(api.NAttr), n)), api.ErrArg)
		is(t, "a bag left ahead", policy.Expr(append(row(api.NAttr), slices.Repeat(row(api.NLit), n-1)...)), api.ErrArg)
		is(t, "a bag left behind", policy.Expr(append(slices.Repeat(row(api.NLit), n-1), node(api.NAttr))), api.ErrArg)
	}
}
