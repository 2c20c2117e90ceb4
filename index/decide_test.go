package index_test

import (
	"slices"
	"strconv"
	"testing"

	"bailiff/api"
	"bailiff/eval"
)

// P18.3, P18.4

// leavesOut wants of each kid that isn't picked that it doesn't apply, and tells how many these are.
func leavesOut(t *testing.T, p api.Policy, g []api.Given) int {
	t.Helper()
	l := leftOut(p, g)
	for _, kid := range l {
		if r, err := eval.Policy(kid, g); r.Mark != api.NotApplicable || len(r.Obls) > 0 || err != api.OK {
			t.Fatalf("%s of %s isn't picked: %s, error %d", brief(kid), brief(g), told(r), err)
		}
	}
	return len(l)
}

func TestDecisionsWrittenOut(t *testing.T) {
	only := "set s only { policy a first when (case.x = 1) { permit ar on permit log a; } policy b first when (case.x = 2) { deny br on deny log b; } policy c first when (case.y < 5) { permit cr; } set d denyover when (case.x = 3) { policy e first when (case.z = 1) { deny er on deny log e; } policy f first when (case.z = 2) { permit fr on permit log f; } } on permit log d } on deny log s"
	first := "set s first { policy a first when (case.x = 1) { permit ar on permit log a; } on permit log b policy c first when (case.y = 1) { deny cr on deny log c; } policy d first { permit dr on permit log d; } } on permit notify s"
	over := "set s denyover { policy a denyunless when (case.x = 1) { permit ar when (case.y = 1) on permit log a; } on deny log b policy c permitunless when (case.y! = 1) { } on permit log c policy d permitunless when (case.y = 1) { } on permit log d } on deny log s on permit log u"
	xyz := func(l ...int) []api.Given {
		var g []api.Given
		for i, n := range l {
			g = append(g, given(api.CCase, []string{"x", "y", "z"}[i], whole(n)))
		}
		return g
	}
	for _, c := range []struct {
		s    string
		g    []api.Given
		want string
	}{
		{only, nil, "NotApplicable"},
		{only, xyz(1), "Permit 1/1 a"},
		{only, xyz(2), "Deny 2/1 b 2/1 s"},
		{only, xyz(4), "NotApplicable"},
		{only, xyz(4, 4), "Permit"},
		{only, xyz(1, 4), "Indeterminate{DP}"},
		{only, xyz(3), "NotApplicable"},
		{only, xyz(3, 9, 1), "Deny 2/1 e 2/1 s"},
		{only, xyz(3, 9, 2), "Permit 1/1 f 1/1 d"},
		{only, xyz(3, 4, 2), "Indeterminate{DP}"},
		{only, xyz(3, 4, 3), "Permit"},
		{only, x(whole(1), whole(2)), "Indeterminate{DP}"},
		{only, x(text("a")), "Indeterminate{DP}"},
		{only, append(x(whole(3)), given(api.CCase, "z", text("a"))), "Indeterminate{DP}"},
		{first, nil, "Permit 1/1 d 1/4 s"},
		{first, xyz(1), "Permit 1/1 a 1/1 b 1/4 s"},
		{first, xyz(1, 1), "Permit 1/1 a 1/1 b 1/4 s"},
		{first, xyz(2, 1), "Deny 2/1 c"},
		{first, xyz(2, 2), "Permit 1/1 d 1/4 s"},
		{first, x(text("a")), "Indeterminate{P}"},
		{first, append(xyz(2), given(api.CCase, "y", text("a"))), "Indeterminate{D}"},
		{first, x(), "Permit 1/1 d 1/4 s"},
		{over, nil, "Indeterminate{P}"},
		{over, xyz(1), "Deny 2/1 b 2/1 s"},
		{over, xyz(1, 1), "Permit 1/1 a 1/1 c 1/1 d 1/1 u"},
		{over, xyz(2, 1), "Permit 1/1 c 1/1 d 1/1 u"},
		{over, xyz(2, 2), "NotApplicable"},
		{over, x(text("a")), "Indeterminate{DP}"},
		{over, append(x(text("a")), given(api.CCase, "y", whole(1))), "Permit 1/1 c 1/1 d 1/1 u"},
		{over, append(x(text("a")), given(api.CCase, "y", whole(2))), "Indeterminate{D}"},
	} {
		p := read(t, c.s)
		if r := asItStands(t, c.s, p, c.g); told(r) != c.want {
			t.Errorf("%s of %+v: %s, not %s", c.s, c.g, told(r), c.want)
		}
		leavesOut(t, p, c.g)
	}
}

// What a policy that is no set comes to doesn't hang on its Key, nor what a set itself does.
func TestTheRootIsNotPicked(t *testing.T) {
	for truth := range 3 {
		r := api.Rule{Id: "r", Deny: true, Target: all(coming(2)), Obls: own("r")}
		want := []api.Result{
			{}, {Mark: api.IndetD}, {Mark: api.Deny, Obls: []api.Obl{duty(2, "dr"), {On: 2, Kind: api.ONotify, Arg: "er"}, duty(2, "dp"), {On: 2, Kind: api.ONotify, Arg: "ep"}}},
		}[truth]
		comes(t, "a policy", under(all(coming(truth)), simple("p", api.DenyOverrides, r)), truths(), want)
		r.Target, r.Cond = nil, lit(boolean(1))
		comes(t, "a policy", under(all(coming(truth)), simple("p", api.DenyUnless, r)), truths(), want)
		for _, alg := range algorithms() {
			asItStands(t, "a set without kids", under(all(coming(truth)), set("s", alg)), truths())
			asItStands(t, "a set", under(all(coming(truth)), set("s", alg, simple("p", api.PermitUnless), under(all(coming(0)), simple("q", api.DenyUnless)))), truths())
			asItStands(t, "a set for everybody", set("s", alg), truths())
			if alg != api.OnlyOne {
				asItStands(t, "a policy without rules", under(all(coming(truth)), simple("p", alg)), truths())
			}
		}
	}
	comes(t, "everybody's", read(t, "policy p permitunless { }"), nil, api.Result{Mark: api.Permit})
	comes(t, "nobody's", read(t, "policy p permitunless when (case.x = 1) { }"), nil, api.Result{})
	comes(t, "nobody's", read(t, "set s permitunless when (case.x = 1) { }"), nil, api.Result{})
}

// to is a policy that comes to that decision over truths, if it is for that request, by rules with duties of their own.
func to(m api.Mark, name string) api.Policy {
	rule := func(id string, deny bool, truth int) api.Rule {
		return api.Rule{Id: name + id, Deny: deny, Target: all(coming(truth)), Obls: own(name + id)}
	}
	switch m {
	case api.Permit:
		return simple(name, api.PermitOverrides, rule("a", true, 1), rule("b", false, 2), rule("c", false, 0), rule("d", false, 2))
	case api.Deny:
		return set(name, api.DenyUnless, under(all(coming(0)), simple(name+"k", api.PermitUnless)), simple(name+"l", api.DenyUnless, rule("e", true, 2)))
	case api.IndetP:
		return simple(name, api.DenyOverrides, rule("f", false, 1))
	case api.IndetD:
		return simple(name, api.FirstApplicable, rule("g", false, 0), rule("h", true, 1), rule("i", true, 2))
	case api.IndetDP:
		return set(name, api.OnlyOne, simple(name+"k", api.PermitUnless), under(all(coming(0)), simple(name+"l", api.DenyUnless)), simple(name+"m", api.DenyUnless))
	}
	return set(name, api.DenyOverrides, under(all(coming(0)), simple(name+"k", api.DenyUnless)))
}

// targets are for the request, for others or nobody knows, with a Key and without one.
func targets() []api.Target {
	no, unknown, yes := coming(0), coming(1), coming(2)
	return []api.Target{
		nil, all(yes), all(unknown), all(no),
		all(by(api.MLess, no)), {{{no}, {yes}}}, {{{yes}}, {{no}, {no}}}, {{{yes, no}}}, {{{no}, {yes}}, {{no}}},
	}
}

func TestKidsComeToThat(t *testing.T) {
	for _, m := range six() {
		p := to(m, "p")
		if r := asItStands(t, "a kid", p, truths()); r.Mark != m || len(r.Obls) == 0 != (m != api.Permit && m != api.Deny) {
			t.Fatal(m, told(r))
		}
	}
}

// Two kids of each decision, under each target, by each algorithm.
func TestAlgorithms(t *testing.T) {
	seen, out := map[string]int{}, 0
	for _, row := range rows(six(), 2) {
		a, b := to(row[0], "a"), to(row[1], "b")
		for _, l := range rows(targets(), 2) {
			for _, alg := range algorithms() {
				p := set("s", alg, under(l[0], a), under(l[1], b))
				r := asItStands(t, "two kids", p, truths())
				seen[told(r)]++
				out += leavesOut(t, p, truths())
				asItStands(t, "two kids, nothing known", p, nil)
			}
		}
	}
	// Each decision, and beside the two sure ones the duties of either kid, of both or of none, and the set's own.
	if len(seen) != 4+2*4 || out < 5000 {
		t.Error(seen, out)
	}
}

// Rows of three kids: left out ahead, between and behind.
func TestThreeKids(t *testing.T) {
	some := []api.Mark{api.NotApplicable, api.Permit, api.Deny, api.IndetD}
	out := 0
	for _, row := range rows(some, 3) {
		for _, truths3 := range rows([]int{0, 1, 2}, 3) {
			for _, alg := range algorithms() {
				p := set("s", alg)
				for i, m := range row {
					p.Kids = append(p.Kids, under(all(coming(truths3[i])), to(m, string(rune('a'+i)))))
				}
				asItStands(t, "three kids", p, truths())
				out += leavesOut(t, p, truths())
			}
		}
	}
	if want := 3 * 64 * 9 * 6; out < want {
		t.Error(out, want)
	}
}

// Sets four deep: at each depth a kid that is left out, not known or met, beside others.
func TestDeep(t *testing.T) {
	out := 0
	for i, row := range rows([]int{0, 1, 2, 3}, maxDeep-1) {
		for turn, m := range six() {
			p := simple("p", api.FirstApplicable, api.Rule{Id: "r", Deny: m == api.Deny, Obls: own("r")})
			if m == api.NotApplicable {
				p.Rules = nil
			}
			for depth, truth := range row {
				p.Target = targets()[truth]
				beside := under(targets()[(i+depth+turn)%len(targets())], simple("b"+strconv.Itoa(depth), []int{api.DenyUnless, api.PermitUnless}[(turn+depth)%2]))
				kids := []api.Policy{p, beside}
				if turn%2 == 0 {
					slices.Reverse(kids)
				}
				p = set("s"+strconv.Itoa(depth), algorithms()[(i+turn+depth)%6], kids...)
			}
			p.Target = targets()[i%3]
			asItStands(t, "deep", p, truths())
			asItStands(t, "deep, nothing known", p, nil)
			out += leavesOut(t, p, truths())
		}
	}
	if out < 300 {
		t.Error(out)
	}
	// At each depth in turn, the one that would decide.
	for depth := range maxDeep - 1 {
		for truth := range 3 {
			p := simple("p", api.PermitUnless)
			for i := range maxDeep - 1 {
				if i == depth {
					p.Target = all(coming(truth))
				}
				p = set("s"+strconv.Itoa(i), api.PermitOverrides, p)
			}
			r := asItStands(t, "one depth", p, truths())
			if want := []api.Mark{api.NotApplicable, api.IndetP, api.Permit}[truth]; r.Mark != want || leavesOut(t, p, truths()) != 1-min(truth, 1) {
				t.Error(depth, truth, told(r))
			}
		}
	}
}

// No kids left, one, and all of as many as may be.
func TestMostKids(t *testing.T) {
	for _, alg := range algorithms() {
		for at := range maxKids {
			for _, m := range []api.Mark{api.Permit, api.Deny} {
				p := set("s", alg)
				for i := range maxKids {
					kid := simple("k"+strconv.Itoa(i), api.PermitUnless)
					if m == api.Deny {
						kid.Alg = api.DenyUnless
					}
					kid.Target = all(is("x", i))
					p.Kids = append(p.Kids, kid)
				}
				r := asItStands(t, "one of all", p, x(whole(at)))
				if alg <= api.OnlyOne && (r.Mark != m || len(r.Obls) != 4) {
					t.Fatal(alg, at, told(r))
				}
				if n := leavesOut(t, p, x(whole(at))); n != maxKids-1 {
					t.Fatal(n)
				}
				asItStands(t, "none", p, x(whole(maxKids)))
				asItStands(t, "none", p, nil)
				asItStands(t, "two", p, x(whole(at), whole(maxKids-1-at)))
				asItStands(t, "all", p, x(text("a")))
				p.Target = all(is("x", at))
				asItStands(t, "one of all, under its own target", p, x(whole(at)))
			}
		}
	}
}

// tree is of as many policies as may be, sixteen in each set, four deep: which of sixteen its kids are for hangs on the depth.
func tree(depth int, name string, n *int) api.Policy {
	*n++
	p := simple(name, api.DenyUnless)
	if depth == maxDeep {
		if *n%70 == 0 {
			p.Rules = []api.Rule{{Id: name + "r", Deny: true, Obls: own(name)}}
		}
		return p
	}
	p = set(name, algorithms()[*n%6])
	for i := range maxKids {
		kid := tree(depth+1, name+string(rune('a'+i)), n)
		kid.Target = slices.Repeat(all(is("x"+strconv.Itoa(depth), i), is("y", 1)), maxMatch)
		p.Kids = append(p.Kids, kid)
	}
	return p
}

func TestMostPolicies(t *testing.T) {
	n := 0
	p := tree(1, "p", &n)
	if n != 1+16+256+4096 {
		t.Fatal(n)
	}
	for i := range 40 {
		g := []api.Given{given(api.CCase, "x1", whole(i%maxKids)), given(api.CCase, "x2", whole(i*7%maxKids)), given(api.CCase, "x3", whole(i*3%maxKids)), given(api.CCase, "y", whole(1))}
		if i%5 == 4 {
			g[i%3].Bag = []api.Value{whole(3), whole(11), text("a")}[i%2 : 2+i%2]
		}
		asItStands(t, "a tree", p, g)
	}
	if out := leavesOut(t, p, nil); out != maxKids {
		t.Error(out)
	}
	asItStands(t, "a tree, nothing known", p, nil)
}

// costly is of others, by its Key; whoever asks more of it needs room for many bags.
func costly() api.Target {
	m := api.Match{Attr: attr(api.CCase, "many"), Op: api.MMore, Value: text("z")}
	wide := slices.Repeat([][]api.Match{slices.Repeat([]api.Match{m}, maxMatch)}, maxMatch)
	return append(all(coming(0)), slices.Repeat(api.Target{wide}, maxMatch-1)...)
}

// P18.3: what isn't picked isn't asked any further, at every depth.
func TestWhatIsLeftOutIsNotAsked(t *testing.T) {
	g := append(truths(), given(api.CCase, "many", slices.Repeat([]api.Value{text("a")}, maxBag)...))
	var kids []api.Policy
	for i := range maxKids {
		kids = append(kids, under(costly(), simple("k"+strconv.Itoa(i), api.DenyUnless)))
	}
	p := set("s", api.PermitOverrides, kids...)
	for depth := range maxDeep - 1 {
		asItStands(t, "costly", p, g)
		whole := testing.AllocsPerRun(3, func() { decided(t, p, g) })
		left := testing.AllocsPerRun(3, func() { comes(t, "costly", p, g, api.Result{}) })
		if whole < 1e4 || left > 1e3 {
			t.Errorf("%d sets above: room for %v things as it stands, for %v by the index", depth, whole, left)
		}
		p.Target = all(coming(2))
		p = set("s"+strconv.Itoa(depth), api.PermitOverrides, p)
	}
}
