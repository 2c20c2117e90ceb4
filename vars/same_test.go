package vars_test

import (
	"slices"
	"strconv"
	"strings"
	"testing"

	"bailiff/api"
)

// P15.1, P15.2: which atoms are the same

// likeMatches differ from the first one, and from each other, in one part or in few.
func likeMatches() []api.Match {
	l := []api.Match{asks(api.MEq, whole(1)), asks(api.MLess, whole(1)), asks(api.MMore, whole(1))}
	for _, a := range likeAttrs()[1:] {
		l = append(l, api.Match{Attr: a, Op: api.MEq, Value: whole(1)})
	}
	for _, v := range likeValues()[1:] {
		l = append(l, asks(api.MEq, v))
	}
	return append(l, api.Match{Attr: must(api.CCase, "x"), Op: api.MLess, Value: whole(1)}, api.Match{Attr: attr(api.CEnv, "x"), Op: api.MEq, Value: tick(1)})
}

func likeAttrs() []api.Attr {
	return []api.Attr{
		attr(api.CCase, "x"), must(api.CCase, "x"), attr(api.CSubject, "x"), attr(api.CAction, "x"), attr(api.CEnv, "x"), must(api.CEnv, "x"),
		attr(api.CCase, "y"), attr(api.CCase, "xx"), attr(api.CCase, "x0"), attr(api.CCase, "x_"), attr(api.CCase, "xxxxxxxxxxxxxxxx"), attr(api.CCase, "xxxxxxxxxxxxxxxy"),
	}
}

func likeValues() []api.Value {
	return []api.Value{
		whole(1), boolean(1), tick(1), boolean(0), tick(0), whole(0), whole(-1), whole(2), whole(1<<32 + 1), whole(1<<53 + 1), whole(1 << 53), whole(-1 << 63),
		text(""), text("1"), text("x"), id("x"), id("y"), text("xx"), text("X"), text("x\x00"), text("\xff"), text("\xfe"),
		text(strings.Repeat("x", 64)), text(strings.Repeat("x", 63)), text(strings.Repeat("x", 63) + "y"),
	}
}

// likeConds differ from the first one, and from each other, in one node or in few, or in their lengths.
func likeConds() [][]api.Node {
	bag, yes := of(attr(api.CCase, "x")), lit(boolean(1))
	var l [][]api.Node
	for _, v := range likeValues() {
		l = append(l, do(api.NEq, do(api.NOne, bag), lit(v)))
		if v != boolean(1) {
			l = append(l, lit(v))
		}
	}
	for _, a := range likeAttrs()[1:] {
		l = append(l, do(api.NEq, do(api.NOne, of(a)), lit(whole(1))))
	}
	for _, op := range []int{api.NLess, api.NAdd, api.NSub, api.NMul, api.NAnd, api.NOr} {
		l = append(l, do(op, do(api.NOne, bag), lit(whole(1))))
	}
	l = append(l, do(api.NEq, do(api.NSize, bag), lit(whole(1))), do(api.NEq, lit(whole(1)), do(api.NOne, bag)), do(api.NHas, bag, lit(whole(1))), do(api.NOne, bag), do(api.NSize, bag))
	// Each of these begins like the next one.
	for n := range maxExpr {
		l = append(l, slices.Concat(yes, slices.Repeat(do(api.NNot), n)))
	}
	// As long as may be, and unlike at one place: the first, the last, one in the midst.
	long := slices.Concat(yes, do(api.NNot), slices.Repeat(slices.Concat(yes, do(api.NAnd)), maxExpr/2-1))
	l = append(l, long)
	for _, at := range []int{0, 2, 3, maxExpr / 2, maxExpr - 2, maxExpr - 1} {
		other := slices.Clone(long)
		other[at] = api.Node{Op: api.NOr}
		if at%2 == 0 {
			other[at] = lit(boolean(0))[0]
		}
		l = append(l, other)
	}
	return l
}

// likes are right atoms, no two of which are the same; matches and conditions that ask the same among them.
func likes() []api.Atom {
	var l []api.Atom
	for _, m := range likeMatches() {
		l = append(l, ofMatch(m))
	}
	for _, c := range likeConds() {
		l = append(l, ofCond(c))
	}
	return l
}

// again is the same atom, made of other memory.
func again(a api.Atom) api.Atom {
	a.Match.Attr.Name, a.Match.Value.S = strings.Clone(a.Match.Attr.Name), strings.Clone(a.Match.Value.S)
	a.Cond = slices.Clone(a.Cond)
	for i, n := range a.Cond {
		a.Cond[i].Attr.Name, a.Cond[i].Value.S = strings.Clone(n.Attr.Name), strings.Clone(n.Value.S)
	}
	return a
}

// asking is a policy, three deep, that asks these in this order, in targets of policies and of rules, and as conditions.
func asking(l ...api.Atom) api.Policy {
	p := api.Policy{Id: "p", Set: true, Alg: api.DenyOverrides}
	for i, a := range l {
		name := strconv.Itoa(i)
		kid := api.Policy{Id: "k" + name, Alg: api.DenyOverrides}
		switch {
		case len(a.Cond) > 0:
			kid.Rules = []api.Rule{{Id: "r" + name, Cond: a.Cond}}
		case i%2 == 0:
			kid.Target = api.Target{{{a.Match}}}
		default:
			kid.Rules = []api.Rule{{Id: "r" + name}, {Id: "s" + name, Target: api.Target{{{a.Match}}}}}
		}
		// No set has more kids than may be.
		if i%maxKids == 0 {
			p.Kids = append(p.Kids, api.Policy{Id: "g" + name, Set: true, Alg: api.OnlyOne})
		}
		in := &p.Kids[i/maxKids]
		in.Kids = append(in.Kids, kid)
	}
	return p
}

// Each two of them, either way round, and each of them twice.
func TestAtomsThatAreAlmostTheSame(t *testing.T) {
	l := likes()
	if len(once(l)) != len(l) {
		t.Fatal(len(once(l)), len(l))
	}
	for i, a := range l {
		for k, b := range l {
			want := []api.Atom{a, b}
			if i == k {
				want = want[:1]
			}
			lists(t, "two", asking(a, again(b)), want...)
		}
		lists(t, "three times", asking(a, again(a), again(again(a))), a)
	}
}

// As many of them as may be, and then all of them once more.
func TestManyAlmostTheSame(t *testing.T) {
	l := likes()
	for i := 0; i+30 <= len(l); i += 5 {
		some := l[i : i+30]
		p := asking(slices.Concat(some, some)...)
		lists(t, "twice", p, some...)
		finds(t, "the last", atoms(t, p), some[29], 29)
	}
}

// A match and a condition that ask the same are two, and so are conditions that come to the same.
func TestAtomsThatAskTheSame(t *testing.T) {
	writes(t, "policy p first when (case.x = 1) { permit r if (eq (one case.x) 1); permit s if (has case.x 1); permit u when (case.x = 1) if (not (not (has case.x 1))); }",
		"case.x = 1", "(eq (one case.x) 1)", "(has case.x 1)", "(not (not (has case.x 1)))")
	writes(t, "policy p first { permit r if true; permit s if (not false); permit u if (not (not true)); permit v if true; }", "true", "(not false)", "(not (not true))")
	writes(t, "policy p first when (case.x < 2) { permit r when (case.x! < 2); permit s when (case.x < @2); }", "case.x < 2", "case.x! < 2", "case.x < @2")
	writes(t, `policy p first when (case.x = "a") { permit r when (case.x = #a) if #a; permit s if "a"; }`, `case.x = "a"`, "case.x = #a", "#a", `"a"`)
}
