package expr_test

import (
	"math"
	"slices"
	"strings"
	"testing"

	"bailiff/api"
)

// P12.1: what each node makes

func TestChapterRuns(t *testing.T) {
	less := do(api.NLess, one(of("x")), lit(whole(1)))
	comes(t, "and false", do(api.NAnd, less, lit(boolean(0))), nil, boolean(0))
	fails(t, "of no request", less, nil, api.ErrMissing)
	fails(t, "of x 1 2", less, x(wholes(1, 2)...), api.ErrMissing)
	comes(t, "of x 0", less, x(whole(0)), boolean(1))
}

func TestLiterals(t *testing.T) {
	for _, g := range [][]api.Given{nil, {}, x(whole(3)), around()} {
		for _, v := range goodValues() {
			comes(t, "a literal", lit(v), g, v)
		}
	}
}

// bags are of all lengths, of each kind.
func bags() [][]api.Value {
	l := [][]api.Value{nil, {}}
	for _, like := range likes() {
		for n := 1; n <= maxBag; n++ {
			l = append(l, slices.Repeat(like, maxBag)[:n], slices.Repeat(like[1:2], n))
		}
	}
	return l
}

// has holds the parts of values against each other one by one.
func has(bag []api.Value, v api.Value) bool {
	for _, w := range bag {
		if w.Kind == v.Kind && w.N == v.N && w.S == v.S {
			return true
		}
	}
	return false
}

// asBag asks for all that is made of a bag.
func asBag(t *testing.T, a []api.Node, g []api.Given, bag []api.Value) {
	t.Helper()
	comes(t, "size", size(a), g, whole(len(bag)))
	if len(bag) == 1 {
		comes(t, "one", one(a), g, bag[0])
	} else {
		fails(t, "one", one(a), g, api.ErrMissing)
	}
	for _, v := range goodValues() {
		comes(t, "has", do(api.NHas, a, lit(v)), g, truth(has(bag, v)))
	}
	comes(t, "has, of a value that was made", do(api.NHas, a, numbers(api.NSub, 0, 1)), g, truth(has(bag, whole(-1))))
	comes(t, "has, of its own size", do(api.NHas, a, size(a)), g, truth(has(bag, whole(len(bag)))))
}

// asNoBag asks for all that is made of an attribute that must be there and isn't.
func asNoBag(t *testing.T, a []api.Node, g []api.Given) {
	t.Helper()
	fails(t, "size", size(a), g, api.ErrMissing)
	fails(t, "one", one(a), g, api.ErrMissing)
	for _, v := range goodValues() {
		fails(t, "has", do(api.NHas, a, lit(v)), g, api.ErrMissing)
	}
}

func TestAttributes(t *testing.T) {
	for _, cat := range []int{api.CSubject, api.CAction, api.CCase, api.CEnv} {
		for _, name := range []string{"x", "true", "abcdefghijklmnop"} {
			for _, bag := range bags() {
				g := given(cat, name, bag...)
				other, like := given(cat%4+1, name, whole(70), whole(71)), given(cat, name[:len(name)-1]+"z", id("z"))
				for _, l := range [][]api.Given{{g}, {other, like, g}, {g, like, other}} {
					asBag(t, attr(cat, name, false), l, bag)
					if len(bag) > 0 {
						asBag(t, attr(cat, name, true), l, bag)
					} else {
						asNoBag(t, attr(cat, name, true), l)
					}
				}
			}
		}
	}
}

func TestAttributesThatAreNotGiven(t *testing.T) {
	for _, l := range [][]api.Given{nil, {}, x(whole(1))[:0], {given(api.CCase, "xx", whole(1)), given(api.CEnv, "x", whole(1)), given(api.CCase, "", whole(1))}} {
		asBag(t, of("x"), l, nil)
		asNoBag(t, must("x"), l)
	}
}

// Of a request that isn't right, too, each node makes what its words say.
func TestRequestsThatAreNotRight(t *testing.T) {
	twice := []api.Given{given(api.CCase, "x", whole(5)), given(api.CCase, "x", whole(6), whole(7))}
	asBag(t, must("x"), twice, wholes(5))
	twice[0], twice[1] = twice[1], twice[0]
	asBag(t, must("x"), twice, wholes(6, 7))
	asNoBag(t, must("x"), []api.Given{given(api.CCase, "x"), given(api.CCase, "x", whole(6))})
	for _, n := range []int{maxBag + 1, 64, 255, 256, 257, 1 << 12} {
		long := slices.Repeat(wholes(1, -1), n)[:n]
		asBag(t, of("x"), x(long...), long)
	}
	mixed := []api.Value{whole(1), text("1"), {Kind: 9}, boolean(1)}
	asBag(t, of("x"), x(mixed...), mixed)
	for _, v := range badValues() {
		asBag(t, must("x"), x(v), []api.Value{v})
		asBag(t, must("x"), x(whole(1), v, v), []api.Value{whole(1), v, v})
	}
	for i, v := range badValues() {
		for k, w := range badValues() {
			g := []api.Given{given(api.CCase, "x", whole(1), v), given(api.CCase, "y", w)}
			comes(t, "has, of what isn't right", do(api.NHas, of("x"), one(of("y"))), g, truth(i == k))
		}
	}
}

func TestNumbers(t *testing.T) {
	const most, least = math.MaxInt, math.MinInt
	for _, c := range []struct {
		op, a, b, want int
		err            api.Errno
	}{
		{op: api.NAdd, a: 2, b: 3, want: 5}, {op: api.NAdd, a: -2, b: 2}, {op: api.NAdd, a: most - 1, b: 1, want: most}, {op: api.NAdd, a: least, b: most, want: -1},
		{op: api.NAdd, a: least + 1, b: -1, want: least}, {op: api.NAdd, a: most, b: 1, err: api.ErrOver}, {op: api.NAdd, a: -1, b: least, err: api.ErrOver},
		{op: api.NSub, a: 7, b: 2, want: 5}, {op: api.NSub, a: 2, b: 7, want: -5}, {op: api.NSub, a: -1, b: least, want: most}, {op: api.NSub, a: least, b: least},
		{op: api.NSub, a: 0, b: least, err: api.ErrOver}, {op: api.NSub, a: least, b: 1, err: api.ErrOver}, {op: api.NSub, a: most, b: -1, err: api.ErrOver},
		{op: api.NMul, a: 6, b: -7, want: -42}, {op: api.NMul, a: least, b: 1, want: least}, {op: api.NMul, a: 1 << 31, b: 1 << 31, want: 1 << 62}, {op: api.NMul, a: least, b: 0},
		{op: api.NMul, a: least, b: -1, err: api.ErrOver}, {op: api.NMul, a: 1 << 32, b: 1 << 31, err: api.ErrOver}, {op: api.NMul, a: most, b: 2, err: api.ErrOver},
	} {
		want := api.Value{}
		if c.err == api.OK {
			want = whole(c.want)
		}
		g := []api.Given{given(api.CCase, "a", whole(c.a)), given(api.CEnv, "b", whole(c.b))}
		a, b := one(of("a")), one(attr(api.CEnv, "b", true))
		for _, l := range [][]api.Node{numbers(c.op, c.a, c.b), do(c.op, a, b), do(c.op, a, lit(whole(c.b))), do(c.op, lit(whole(c.a)), b)} {
			are(t, "of numbers", l, g, want, c.err)
		}
	}
}

func TestSizesAreNumbers(t *testing.T) {
	g := []api.Given{given(api.CCase, "x", whole(9), whole(9), whole(8)), given(api.CSubject, "role", id("clerk"), id("judge"))}
	roles := size(attr(api.CSubject, "role", true))
	comes(t, "more", do(api.NLess, roles, size(of("x"))), g, boolean(1))
	comes(t, "less", do(api.NLess, size(of("x")), roles), g, boolean(0))
	comes(t, "the sum", do(api.NAdd, size(of("x")), do(api.NMul, roles, lit(whole(10)))), g, whole(23))
	comes(t, "none", do(api.NEq, size(of("y")), lit(whole(0))), g, boolean(1))
	fails(t, "no tick", do(api.NLess, size(of("x")), lit(tick(5))), g, api.ErrType)
}

func TestComparisons(t *testing.T) {
	for i, like := range likes() {
		for k, others := range likes() {
			for p, v := range like {
				for q, w := range others {
					eq, less := do(api.NEq, lit(v), one(of("x"))), do(api.NLess, one(of("x")), lit(v))
					switch {
					case i != k:
						fails(t, "of two kinds", eq, x(w), api.ErrType)
						fails(t, "of two kinds", less, x(w), api.ErrType)
						continue
					case v.Kind == api.KBool:
						fails(t, "of truths", less, x(w), api.ErrType)
					case v.Kind == api.KText || v.Kind == api.KId:
						comes(t, "of texts", less, x(w), truth(strings.Compare(w.S, v.S) < 0))
					default:
						comes(t, "of numbers", less, x(w), truth(w.N < v.N))
					}
					comes(t, "of one kind", eq, x(w), truth(p == q))
				}
			}
		}
	}
}

func TestTruths(t *testing.T) {
	for _, a := range []bool{false, true} {
		comes(t, "not", do(api.NNot, lit(truth(a))), nil, truth(!a))
		comes(t, "not not", do(api.NNot, do(api.NNot, one(of("x")))), x(truth(a)), truth(a))
		for _, b := range []bool{false, true} {
			comes(t, "and", do(api.NAnd, lit(truth(a)), lit(truth(b))), nil, truth(a && b))
			comes(t, "or", do(api.NOr, lit(truth(a)), lit(truth(b))), nil, truth(a || b))
			comes(t, "and of one", do(api.NAnd, one(of("x")), do(api.NNot, lit(truth(b)))), x(truth(a)), truth(a && !b))
			comes(t, "or of one", do(api.NOr, do(api.NNot, lit(truth(a))), one(of("x"))), x(truth(b)), truth(!a || b))
		}
	}
}

// Which side is which, and how deep, is seen by what is taken off what.
func TestWithinOneAnother(t *testing.T) {
	n := func(i int) []api.Node { return lit(whole(i)) }
	sub := func(a, b []api.Node) []api.Node { return do(api.NSub, a, b) }
	comes(t, "on the left", sub(sub(sub(n(100), n(10)), n(5)), n(1)), nil, whole(84))
	comes(t, "on the right", sub(n(100), sub(n(10), sub(n(5), n(1)))), nil, whole(94))
	comes(t, "on both", sub(sub(n(100), n(10)), sub(n(5), n(1))), nil, whole(86))
	comes(t, "in the middle", sub(sub(n(100), sub(n(10), n(5))), n(1)), nil, whole(94))
	comes(t, "in a bag's place", do(api.NHas, of("x"), sub(sub(n(9), n(1)), size(of("x")))), x(wholes(6, 7)...), boolean(1))
	comes(t, "bags wait", do(api.NHas, of("x"), do(api.NHas, of("y"), do(api.NHas, of("z"), n(1)))),
		[]api.Given{given(api.CCase, "x", boolean(0)), given(api.CCase, "y", boolean(1)), given(api.CCase, "z", whole(1))}, boolean(0))
	comes(t, "mixed", do(api.NOr, do(api.NLess, sub(n(3), n(2)), n(1)), do(api.NNot, do(api.NEq, one(of("x")), n(5)))), x(whole(4)), boolean(1))
}

// Each Op behind each other one that may stand there.
func TestEachBehindEachOther(t *testing.T) {
	g := x(wholes(1, 2)...)
	makers := []thing{
		{l: lit(whole(2)), want: whole(2)}, {l: one(of("alone")), want: whole(7)}, {l: size(of("x")), want: whole(2)}, {l: do(api.NHas, of("x"), lit(whole(2))), want: boolean(1)},
		{l: numbers(api.NEq, 1, 2), want: boolean(0)}, {l: numbers(api.NLess, 1, 2), want: boolean(1)}, {l: numbers(api.NAdd, 3, 4), want: whole(7)},
		{l: numbers(api.NSub, 3, 4), want: whole(-1)}, {l: numbers(api.NMul, 3, 4), want: whole(12)}, {l: do(api.NNot, lit(boolean(1))), want: boolean(0)},
		{l: do(api.NAnd, lit(boolean(1)), lit(boolean(1))), want: boolean(1)}, {l: do(api.NOr, lit(boolean(0)), lit(boolean(0))), want: boolean(0)},
	}
	g = append(g, given(api.CCase, "alone", whole(7)))
	for _, a := range makers {
		comes(t, "by itself", a.l, g, a.want)
		if a.want.Kind == api.KBool {
			comes(t, "not", do(api.NNot, a.l), g, truth(a.want.N == 0))
		} else {
			fails(t, "not", do(api.NNot, a.l), g, api.ErrType)
		}
		comes(t, "has", do(api.NHas, of("x"), a.l), g, truth(a.want == whole(1) || a.want == whole(2)))
		for _, b := range makers {
			for _, op := range pairs() {
				want, err := ofSmall(op, a, b)
				are(t, "of two", do(op, a.l, b.l), g, want, err)
			}
		}
	}
}

// ofSmall is what comes of two small numbers and truths, none of them an error.
func ofSmall(op int, a, b thing) (api.Value, api.Errno) {
	m, n := a.want.N, b.want.N
	switch {
	case op == api.NAnd && (a.want == boolean(0) || b.want == boolean(0)):
		return boolean(0), api.OK
	case op == api.NOr && (a.want == boolean(1) || b.want == boolean(1)):
		return boolean(1), api.OK
	case a.want.Kind != b.want.Kind:
		return api.Value{}, api.ErrType
	case op == api.NEq:
		return truth(m == n), api.OK
	case (op == api.NAnd || op == api.NOr) != (a.want.Kind == api.KBool):
		return api.Value{}, api.ErrType
	}
	switch op {
	case api.NLess:
		return truth(m < n), api.OK
	case api.NAdd:
		return whole(m + n), api.OK
	case api.NSub:
		return whole(m - n), api.OK
	case api.NMul:
		return whole(m * n), api.OK
	case api.NAnd:
		return boolean(1), api.OK
	}
	return boolean(0), api.OK
}

// Expressions of just as many nodes as may be, and of one more.
func TestMostNodes(t *testing.T) {
	for _, n := range []int{0, 1, -7, 31, math.MaxInt / 2} {
		// On the left one value waits at a time, on the right all of them do.
		left, right := one(of("x")), one(of("x"))
		behind, ahead := n, n
		for i := 1; i <= 15; i++ {
			left, right = do(api.NSub, left, lit(whole(i*i))), do(api.NSub, lit(whole(i*i)), right)
			behind, ahead = behind-i*i, i*i-ahead
		}
		atMost(t, left, x(whole(n)), whole(behind))
		atMost(t, right, x(whole(n)), whole(ahead))
	}
	bags := one(of("x"))
	for range 15 {
		bags = do(api.NHas, of("y"), bags)
	}
	for _, n := range []int{1, 2} {
		atMost(t, bags, []api.Given{given(api.CCase, "x", whole(n)), given(api.CCase, "y", whole(1), boolean(0))}, truth(n == 1))
	}
	nots := one(of("x"))
	for range maxExpr - 2 {
		nots = do(api.NNot, nots)
	}
	atMost(t, nots, x(boolean(0)), boolean(0))
	// What decides comes last, behind errors that wait, or first.
	decided, early := lit(boolean(1)), do(api.NNot, lit(boolean(0)))
	for range 10 {
		decided, early = do(api.NOr, one(of("none")), decided), do(api.NOr, early, one(of("none")))
	}
	atMost(t, do(api.NNot, decided), nil, boolean(0))
	atMost(t, early, nil, boolean(1))
}

func atMost(t *testing.T, l []api.Node, g []api.Given, want api.Value) {
	t.Helper()
	if len(l) != maxExpr {
		t.Fatalf("%d nodes", len(l))
	}
	comes(t, "as many nodes as may be", l, g, want)
	fails(t, "one more", do(api.NNot, l), g, api.ErrArg)
	fails(t, "one more ahead, and wrong", append(lit(whole(1)), l...), g, api.ErrArg)
}
