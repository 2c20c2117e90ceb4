package vars_test

import (
	"slices"
	"strings"
	"testing"

	"bailiff/api"
	"bailiff/expr"
	"bailiff/target"
)

// P15.2: Ask

// request is one over which matches and conditions come to each of the three answers.
func request() []api.Given {
	return []api.Given{
		given(api.CSubject, "role", id("clerk"), id("judge")), given(api.CCase, "x", whole(1)), given(api.CCase, "due", tick(5)),
		given(api.CCase, "none"), given(api.CEnv, "odd", text("a"), whole(1)),
	}
}

func TestAskOfMatches(t *testing.T) {
	role, due, odd, none := attr(api.CSubject, "role"), attr(api.CCase, "due"), attr(api.CEnv, "odd"), must(api.CCase, "none")
	for want, l := range [][]api.Match{
		{asks(api.MEq, whole(2)), asks(api.MLess, whole(1)), asks(api.MMore, whole(1)), {Attr: role, Op: api.MEq, Value: id("admin")}, {Attr: attr(api.CCase, "none"), Op: api.MEq, Value: whole(1)}, {Attr: attr(api.CAction, "x"), Op: api.MEq, Value: whole(1)}},
		{asks(api.MEq, text("1")), asks(api.MLess, tick(1)), asks(api.MMore, boolean(1)), {Attr: none, Op: api.MEq, Value: whole(1)}, {Attr: odd, Op: api.MEq, Value: whole(2)}, {Attr: must(api.CAction, "x"), Op: api.MEq, Value: whole(1)}},
		{asks(api.MEq, whole(1)), asks(api.MLess, whole(2)), asks(api.MMore, whole(0)), {Attr: role, Op: api.MEq, Value: id("judge")}, {Attr: due, Op: api.MMore, Value: tick(4)}, {Attr: odd, Op: api.MEq, Value: whole(1)}},
	} {
		for _, m := range l {
			answers(t, "a match", ofMatch(m), request(), want)
			answers(t, "a match, its condition empty", api.Atom{Match: m, Cond: []api.Node{}}, request(), want)
			answers(t, "a match, with room for a condition", api.Atom{Match: m, Cond: lit(boolean(1 - want/2))[:0]}, request(), want)
		}
	}
	answers(t, "no request", ofMatch(asks(api.MEq, whole(1))), nil, 0)
	answers(t, "an empty request", ofMatch(asks(api.MEq, whole(1))), request()[:0], 0)
	answers(t, "no request, with Must", ofMatch(api.Match{Attr: must(api.CCase, "x"), Op: api.MEq, Value: whole(1)}), nil, 1)
}

// condsThat come to 0, 1 and 2 over request.
func condsThat() [][][]api.Node {
	one, mistake := do(api.NOne, of(attr(api.CCase, "x"))), do(api.NEq, lit(whole(1)), lit(text("a")))
	return [][][]api.Node{
		{lit(boolean(0)), do(api.NEq, one, lit(whole(2))), do(api.NAnd, mistake, lit(boolean(0))), do(api.NHas, of(attr(api.CSubject, "role")), lit(id("x")))},
		{lit(whole(1)), lit(text("")), one, mistake, do(api.NOne, of(attr(api.CCase, "none"))), do(api.NHas, of(must(api.CCase, "none")), lit(whole(1)))},
		{lit(boolean(1)), do(api.NEq, one, lit(whole(1))), do(api.NOr, mistake, lit(boolean(1))), slices.Concat(lit(boolean(1)), slices.Repeat(do(api.NNot), 30))},
	}
}

// A condition counts, whatever stands beside it.
func TestAskOfConditions(t *testing.T) {
	no, unsure, yes := asks(api.MEq, whole(2)), asks(api.MEq, text("")), asks(api.MEq, whole(1))
	for want, l := range condsThat() {
		for _, c := range l {
			answers(t, "a condition", ofCond(c), request(), want)
			for _, m := range []api.Match{no, unsure, yes} {
				answers(t, "both", api.Atom{Match: m, Cond: c}, request(), want)
			}
		}
	}
	answers(t, "no request", ofCond(condsThat()[2][1]), nil, 1)
	answers(t, "zero", api.Atom{}, nil, 0)
	answers(t, "zero", api.Atom{Cond: []api.Node{}}, request(), 0)
}

// Of policies' atoms: the answers are those of target and expr.
func TestAskOfPolicies(t *testing.T) {
	var seen [2][3]int
	for i := range 5000 {
		m := maker{x: uint64(i), room: 3}
		m.policy(1+i%maxDeep, 3)
		g := m.request()
		for _, a := range m.asked {
			kind, want := 0, target.Match(a.Match, g)
			if len(a.Cond) > 0 {
				kind, want = 1, expr.Cond(a.Cond, g)
			}
			answers(t, "mixed", a, g, want)
			seen[kind][want]++
		}
	}
	for _, l := range seen {
		if slices.Min(l[:]) < 1000 {
			t.Error(seen)
		}
	}
}

// What isn't right is asked as it is.
func TestAskOfWhatIsNotRight(t *testing.T) {
	long := slices.Concat(lit(boolean(1)), slices.Repeat(do(api.NNot), maxExpr))
	for _, c := range [][]api.Node{
		of(attr(api.CCase, "x")), do(api.NNot), do(0, lit(boolean(1))), do(14, lit(boolean(1))), {{}}, {{Op: -1, Value: boolean(1)}}, lit(boolean(2)), lit(api.Value{}), long,
		slices.Concat(lit(boolean(1)), lit(boolean(1))), {{Op: api.NLit, Value: boolean(1), Attr: attr(1, "x")}}, do(api.NSize, of(attr(0, "x"))), do(api.NSize, of(attr(1, "X"))),
	} {
		answers(t, "no condition", ofCond(c), request(), 1)
		answers(t, "no condition, beside a match", api.Atom{Match: asks(api.MEq, whole(1)), Cond: c}, request(), 1)
	}
	for _, op := range []int{0, 4, -1, 1 << 40} {
		answers(t, "another Op", ofMatch(asks(op, whole(0))), x(whole(1)), 2)
		answers(t, "another Op", ofMatch(asks(op, whole(1))), x(whole(1)), 0)
		answers(t, "another Op", ofMatch(asks(op, tick(1))), x(whole(1)), 1)
	}
	for _, v := range []api.Value{{}, {Kind: 9, N: 1}, {Kind: api.KInt, S: "x"}, boolean(7), text(strings.Repeat("a", 65)), id("X"), tick(-1)} {
		answers(t, "no value, but the same", ofMatch(asks(api.MEq, v)), x(whole(1), v), 2)
		answers(t, "no value", ofMatch(asks(api.MLess, v)), x(v), 1)
		answers(t, "no value, of nothing", ofMatch(asks(api.MMore, v)), nil, 0)
	}
	for _, a := range []api.Attr{attr(0, "x"), attr(5, "x"), attr(-3, ""), attr(api.CCase, ""), attr(api.CCase, "X"), attr(api.CCase, strings.Repeat("x", 17))} {
		answers(t, "no attribute", ofMatch(api.Match{Attr: a, Op: api.MEq, Value: whole(1)}), []api.Given{given(a.Cat, a.Name, whole(1))}, 2)
		answers(t, "no attribute, not there", ofMatch(api.Match{Attr: a, Op: api.MEq, Value: whole(1)}), request(), 0)
	}
}

// Requests that aren't right are, too: of two of one category and name the first counts.
func TestAskOfRequestsThatAreNotRight(t *testing.T) {
	m, c := ofMatch(asks(api.MEq, whole(1))), ofCond(do(api.NHas, of(attr(api.CCase, "x")), lit(whole(1))))
	for _, a := range []api.Atom{m, c} {
		answers(t, "twice", a, append(x(whole(1)), x(whole(2))...), 2)
		answers(t, "twice", a, append(x(whole(2)), x(whole(1))...), 0)
		answers(t, "twice, first without values", a, append(x(), x(whole(1))...), 0)
		answers(t, "no attributes", a, []api.Given{{}, given(0, "x", whole(1)), given(7, "x", whole(1)), given(api.CCase, "", whole(1)), given(api.CCase, "X", whole(1))}, 0)
		answers(t, "many", a, slices.Concat(slices.Repeat([]api.Given{given(api.CEnv, "x", whole(1))}, 100), x(whole(1))), 2)
		answers(t, "a long bag", a, x(append(slices.Repeat([]api.Value{whole(2)}, 99), whole(1))...), 2)
		answers(t, "two kinds", a, x(text("a"), whole(1)), 2)
		answers(t, "a value that isn't right", a, x(api.Value{Kind: api.KInt, N: 1, S: "x"}), 0)
	}
	answers(t, "a value of no kind", m, x(api.Value{}), 1)
	answers(t, "a value of no kind", c, x(api.Value{}), 0)
}
