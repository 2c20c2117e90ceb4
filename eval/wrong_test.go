package eval_test

import (
	"slices"
	"strconv"
	"strings"
	"testing"

	"bailiff/api"
	"bailiff/eval"
	"bailiff/policy"
)

// P14.3 of policies that aren't right, and of requests that aren't

// threeDeep is a right policy, three deep, with something in each of its lists.
func threeDeep() api.Policy {
	cond := do(api.NEq, lit(whole(1)), lit(whole(1)))
	rule := func(name string) api.Rule {
		return api.Rule{Id: name, Target: targets(2)[4], Cond: slices.Clone(cond), Obls: dutiesOf(name)}
	}
	low := under(2, plain("low", api.DenyOverrides, rule("l1"), rule("l2")), 2)
	middle := under(2, set("middle", api.DenyOverrides, low, plain("other", api.PermitUnless, rule("o1"))), 3)
	return under(2, set("top", api.DenyOverrides, plain("first", api.FirstApplicable, rule("f1")), middle), 4)
}

// fault is one thing that is wrong with a T.
type fault[T any] struct {
	what string
	put  func(*T)
}

func badNames() []string {
	return []string{"", "A", "aB", "9a", "_a", "a b", "a ", "a.b", "ä", "a\x00", "abcdefghijklmnopq", strings.Repeat("a", 1<<10)}
}

func badValues() []api.Value {
	return []api.Value{
		{}, {N: 1}, {S: "a"}, {Kind: 6}, {Kind: -1}, boolean(2), {Kind: api.KBool, S: "x"}, {Kind: api.KInt, S: "x"}, {Kind: api.KText, N: 1},
		text(strings.Repeat("a", maxText+1)), tick(-1), tick(1<<40 + 1), id(""), id("Ann"), {Kind: api.KId, S: "a", N: 1},
	}
}

func badTargets() []api.Target {
	yes := matchOf(2)
	l := []api.Target{
		{{}}, {nil}, {{{}}}, {{nil}}, {{{yes}}, {}}, {{{yes}, {}}},
		slices.Repeat(api.Target{{{yes}}}, maxMatch+1),
		{slices.Repeat([][]api.Match{{yes}}, maxMatch+1)},
		{{slices.Repeat([]api.Match{yes}, maxMatch+1)}},
	}
	wrong := []api.Match{{}}
	for _, op := range []int{0, 4, -1, 1<<32 + 1} {
		wrong = append(wrong, api.Match{Attr: yes.Attr, Op: op, Value: yes.Value})
	}
	for _, a := range badAttrs() {
		wrong = append(wrong, api.Match{Attr: a, Op: api.MEq, Value: whole(1)})
	}
	for _, v := range badValues() {
		wrong = append(wrong, api.Match{Attr: yes.Attr, Op: api.MLess, Value: v})
	}
	for _, m := range wrong {
		l = append(l, api.Target{{{m}}}, api.Target{{{yes}}, {{yes}, {yes, m}}})
	}
	return l
}

func badAttrs() []api.Attr {
	l := []api.Attr{attr(0, "x"), attr(5, "x"), attr(-1, "x"), must(1<<32+1, "x")}
	for _, name := range badNames() {
		l = append(l, attr(api.CCase, name))
	}
	return l
}

func badConds() [][]api.Node {
	one, bag := lit(whole(1)), of(attr(api.CCase, "x"))
	l := [][]api.Node{
		bag, do(api.NNot), do(api.NAnd, one), slices.Concat(one, one), do(api.NOne, one), do(api.NHas, one, one), do(api.NEq, bag, one), do(0, one), do(14, one, one), do(-1),
		{{Op: api.NLit, Value: whole(1), Attr: attr(1, "x")}}, {{Op: api.NAttr, Attr: attr(1, "x"), Value: whole(1)}, {Op: api.NSize}}, {{Op: api.NLit, Value: boolean(1)}, {Op: api.NNot, Value: whole(1)}},
		slices.Concat(lit(boolean(1)), slices.Repeat([]api.Node{{Op: api.NNot}}, maxExpr)),
	}
	for _, v := range badValues() {
		l = append(l, lit(v))
	}
	for _, a := range badAttrs() {
		l = append(l, do(api.NSize, of(a)))
	}
	return l
}

func badDuties() [][]api.Obl {
	l := [][]api.Obl{slices.Repeat(dutiesOf("x"), 3), slices.Repeat([]api.Obl{{On: 1, Kind: 1, Arg: "x"}}, maxObls+1)}
	for _, on := range ons()[2:] {
		l = append(l, []api.Obl{{On: on, Kind: 1, Arg: "x"}})
	}
	for _, kind := range []int{0, 5, -1, 1<<32 + 1} {
		l = append(l, []api.Obl{{On: 1, Kind: 1, Arg: "x"}, {On: 2, Kind: kind, Arg: "x"}})
	}
	for _, name := range badNames() {
		l = append(l, []api.Obl{{On: 2, Kind: 4, Arg: name}})
	}
	return l
}

// ruleFaults are all that may be wrong with a rule by itself.
func ruleFaults() []fault[api.Rule] {
	var l []fault[api.Rule]
	for _, name := range badNames() {
		l = append(l, fault[api.Rule]{"a rule's name", func(r *api.Rule) { r.Id = name }})
	}
	for _, name := range []string{"top", "middle", "first", "low", "l2", "o1", "f1"} {
		l = append(l, fault[api.Rule]{"a name that is there already", func(r *api.Rule) {
			if r.Id == name {
				// Its own name is no fault, so it takes the root's.
				r.Id = "top"
				return
			}
			r.Id = name
		}})
	}
	for _, bad := range badTargets() {
		l = append(l, fault[api.Rule]{"a rule's target", func(r *api.Rule) { r.Target = bad }})
	}
	for _, bad := range badConds() {
		l = append(l, fault[api.Rule]{"a condition", func(r *api.Rule) { r.Cond = bad }})
	}
	for _, bad := range badDuties() {
		l = append(l, fault[api.Rule]{"a rule's duties", func(r *api.Rule) { r.Obls = bad }})
	}
	return l
}

// policyFaults are all that may be wrong with a set or a policy by itself.
func policyFaults() []fault[api.Policy] {
	var l []fault[api.Policy]
	put := func(what string, f func(*api.Policy)) { l = append(l, fault[api.Policy]{what, f}) }
	for _, name := range badNames() {
		put("a name", func(p *api.Policy) { p.Id = name })
	}
	for _, alg := range []int{0, 7, -1, -6, 1<<8 + 1, 1<<32 + 1} {
		put("an algorithm", func(p *api.Policy) { p.Alg = alg })
	}
	for _, bad := range badTargets() {
		put("a target", func(p *api.Policy) { p.Target = bad })
	}
	for _, bad := range badDuties() {
		put("duties", func(p *api.Policy) { p.Obls = bad })
	}
	put("rules and kids", func(p *api.Policy) {
		p.Rules, p.Kids = []api.Rule{{Id: "more"}}, []api.Policy{plain("too", api.DenyOverrides)}
	})
	put("a set of rules", func(p *api.Policy) { p.Set, p.Rules, p.Kids = true, []api.Rule{{Id: "more"}}, nil })
	put("a policy of kids", func(p *api.Policy) {
		p.Set, p.Rules, p.Kids = false, nil, []api.Policy{plain("more", api.DenyOverrides)}
	})
	put("only of rules", func(p *api.Policy) { p.Set, p.Alg, p.Kids = false, api.OnlyOne, nil })
	put("too many rules", func(p *api.Policy) { p.Set, p.Kids, p.Rules = false, nil, manyRules("more", maxKids+1) })
	put("too many kids", func(p *api.Policy) { p.Set, p.Rules, p.Kids = true, nil, manyKids("more", maxKids+1, 0) })
	put("too many rules in all", func(p *api.Policy) { p.Set, p.Rules, p.Kids = true, nil, manyKids("more", 5, 13) })
	put("too deep", func(p *api.Policy) {
		kid := plain("e", api.DenyOverrides)
		for _, name := range []string{"d", "c", "b"} {
			kid = set(name, api.DenyOverrides, kid)
		}
		p.Set, p.Rules, p.Kids = true, nil, []api.Policy{kid}
	})
	put("two of one name", func(p *api.Policy) {
		p.Set, p.Rules, p.Kids = true, nil, []api.Policy{plain("more", api.DenyOverrides), plain("more", api.FirstApplicable)}
	})
	put("two rules of one name", func(p *api.Policy) {
		p.Set, p.Kids, p.Rules = false, nil, []api.Rule{{Id: "more"}, {Id: "more", Deny: true}}
	})
	put("a rule named like the policy", func(p *api.Policy) { p.Set, p.Kids, p.Rules = false, nil, []api.Rule{{Id: p.Id}} })
	put("a kid named like the set", func(p *api.Policy) {
		p.Set, p.Rules, p.Kids = true, nil, []api.Policy{plain(p.Id, api.DenyOverrides)}
	})
	return l
}

func manyRules(name string, n int) []api.Rule {
	var l []api.Rule
	for i := range n {
		l = append(l, api.Rule{Id: name + strconv.Itoa(i)})
	}
	return l
}

func manyKids(name string, n, rules int) []api.Policy {
	var l []api.Policy
	for i := range n {
		kid := name + strconv.Itoa(i)
		l = append(l, plain(kid, api.DenyOverrides, manyRules(kid+"_", rules)...))
	}
	return l
}

// policiesOf are the policy and those in it, at all depths.
func policiesOf(p *api.Policy) []*api.Policy {
	l := []*api.Policy{p}
	for i := range p.Kids {
		l = append(l, policiesOf(&p.Kids[i])...)
	}
	return l
}

func rulesOf(p *api.Policy) []*api.Rule {
	var l []*api.Rule
	for _, kid := range policiesOf(p) {
		for i := range kid.Rules {
			l = append(l, &kid.Rules[i])
		}
	}
	return l
}

// Each fault at each place: in what is met and in what isn't, under each algorithm of the root.
func TestPoliciesThatAreNotRight(t *testing.T) {
	p := threeDeep()
	comes(t, "right", p, known(), decided(t, p, known()))
	errs := map[api.Errno]int{}
	wrong := func(what string, p api.Policy) {
		t.Helper()
		errs[policy.Right(p)]++
		for _, g := range [][]api.Given{known(), nil} {
			for _, alg := range []int{p.Alg, api.FirstApplicable, api.DenyUnless} {
				q := p
				if alg != p.Alg && slices.Contains(algorithms(), p.Alg) {
					q.Alg = alg
				}
				if policy.Right(q) != api.OK {
					refused(t, what, q, g)
				}
			}
		}
	}
	for i := range policiesOf(&p) {
		for _, f := range policyFaults() {
			p, unmet := threeDeep(), threeDeep()
			f.put(policiesOf(&p)[i])
			wrong(f.what, p)
			// Ahead of the fault, which may be the target itself.
			unmet.Target = targets(0)[0]
			f.put(policiesOf(&unmet)[i])
			wrong(f.what+", under a target that isn't met", unmet)
		}
	}
	for i := range rulesOf(&p) {
		for _, f := range ruleFaults() {
			p := threeDeep()
			f.put(rulesOf(&p)[i])
			wrong(f.what, p)
			policiesOf(&p)[1].Target, policiesOf(&p)[2].Target = targets(0)[1], targets(1)[0]
			wrong(f.what+", under a target that isn't met", p)
		}
	}
	// All of these are wrong, in both ways; what policy.Right tells of them is ErrArg here.
	if errs[api.OK] > 0 || errs[api.ErrArg] < 500 || errs[api.ErrLimit] < 50 {
		t.Error(errs)
	}
}

// Written out, each way that policy.Right knows once.
func TestRefusalsWrittenOut(t *testing.T) {
	ok := plain("p", api.DenyOverrides, api.Rule{Id: "r"})
	comes(t, "right", ok, nil, api.Result{Mark: api.Permit, Obls: dutiesOn("p", api.Permit)})
	refused(t, "zero", api.Policy{}, nil)
	refused(t, "no name", plain("", api.DenyOverrides), nil)
	refused(t, "no algorithm", plain("p", 0), nil)
	refused(t, "no algorithm", plain("p", 7), nil)
	refused(t, "only of rules", plain("p", api.OnlyOne), nil)
	refused(t, "a name twice", plain("p", api.DenyOverrides, api.Rule{Id: "p"}), nil)
	refused(t, "a rule without a name", plain("p", api.DenyOverrides, api.Rule{}), nil)
	refused(t, "a set of rules", api.Policy{Id: "p", Set: true, Alg: 1, Rules: ok.Rules}, nil)
	refused(t, "a policy of kids", api.Policy{Id: "s", Alg: 1, Kids: []api.Policy{ok}}, nil)
	refused(t, "seventeen rules", plain("p", api.DenyOverrides, manyRules("r", maxKids+1)...), nil)
	refused(t, "seventeen kids", set("s", api.OnlyOne, manyKids("k", maxKids+1, 0)...), nil)
	refused(t, "sixty-five rules", set("s", api.DenyOverrides, manyKids("k", 5, 13)...), nil)
	refused(t, "too deep", set("a", 1, set("b", 1, set("c", 1, set("d", 1, ok)))), nil)
	refused(t, "an AnyOf without AllOfs", api.Policy{Id: "p", Alg: api.PermitUnless, Target: api.Target{{}}}, nil)
	refused(t, "a bag as a condition", plain("p", api.DenyUnless, api.Rule{Id: "r", Cond: of(attr(api.CCase, "x"))}), nil)
	refused(t, "nine duties", api.Policy{Id: "p", Alg: api.PermitUnless, Obls: slices.Repeat([]api.Obl{{On: 1, Kind: 1, Arg: "a"}}, maxObls+1)}, nil)
	refused(t, "a duty on none of both", api.Policy{Id: "p", Alg: api.PermitUnless, Obls: []api.Obl{{On: 3, Kind: 1, Arg: "a"}}}, nil)
	comes(t, "sixteen rules", plain("p", api.FirstApplicable, manyRules("r", maxKids)...), nil, api.Result{Mark: api.Permit, Obls: dutiesOn("p", api.Permit)})
	comes(t, "as deep as may be", set("a", 1, set("b", 1, set("c", 1, api.Policy{Id: "d", Alg: api.PermitUnless}))), nil, api.Result{Mark: api.Permit, Obls: slices.Concat(dutiesOn("c", api.Permit), dutiesOn("b", api.Permit), dutiesOn("a", api.Permit))})
}

// A policy that holds itself is at its end, too.
func TestPoliciesThatHoldThemselves(t *testing.T) {
	kids := make([]api.Policy, maxKids)
	for i := range kids {
		kids[i] = set("k"+strconv.Itoa(i), api.DenyOverrides, kids...)
	}
	refused(t, "itself", kids[0], known())
	p := set("p", api.DenyUnless, plain("q", api.DenyOverrides))
	p.Kids[0].Set, p.Kids[0].Kids = true, p.Kids
	refused(t, "itself", p, nil)
}

// Requests that aren't right are taken all the same: of two of one category and name the first counts, of values of two kinds each.
func TestRequestsThatAreNotRight(t *testing.T) {
	s := "policy p denyover { permit r on permit log a; deny d when (case.x = 1) on deny notify b; deny e if (has case.y 1) on deny log e; } on permit review c"
	y := func(bag ...api.Value) api.Given { return given(api.CCase, "y", bag...) }
	says(t, s, append(x(whole(2)), x(whole(1))...), api.Permit, "a", "c")
	says(t, s, append(x(whole(1)), x(whole(2))...), api.Deny, "b")
	says(t, s, append(x(), x(whole(1))...), api.Permit, "a", "c")
	says(t, s, x(text("a"), whole(1)), api.Deny, "b")
	says(t, s, x(whole(2), text("a")), api.IndetDP)
	says(t, s, x(api.Value{Kind: api.KInt, N: 1, S: "x"}), api.Permit, "a", "c")
	says(t, s, x(api.Value{}), api.IndetDP)
	says(t, s, x(slices.Repeat([]api.Value{whole(2)}, 99)...), api.Permit, "a", "c")
	says(t, s, x(append(slices.Repeat([]api.Value{whole(2)}, 99), whole(1))...), api.Deny, "b")
	says(t, s, []api.Given{y(text("a"), whole(1), boolean(7))}, api.Deny, "e")
	says(t, s, []api.Given{y(whole(2)), y(whole(1))}, api.Permit, "a", "c")
	says(t, s, []api.Given{{}, given(0, "x", whole(1)), given(9, "y", whole(1)), given(api.CCase, "", whole(1))}, api.Permit, "a", "c")
	many := append(slices.Repeat([]api.Given{given(api.CEnv, "z", whole(1))}, 200), x(whole(1))...)
	says(t, s, many, api.Deny, "b")
	for i := range 200 {
		m := maker{x: uint64(i)}
		p, g := m.policy(1), slices.Concat(m.request(), others(), m.request(), x(badValues()...))
		comes(t, "mixed", p, g, byTheWords(p, g))
	}
	if got := eval.Rule(api.Rule{Deny: true, Obls: dutiesOf("d")}, others()); !same(got, api.Result{Mark: api.Deny, Obls: dutiesOn("d", api.Deny)}) {
		t.Error(told(got))
	}
}
