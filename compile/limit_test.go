package compile_test

import (
	"slices"
	"strconv"
	"testing"

	"bailiff/api"
	"bailiff/compile"
	"bailiff/vars"
)

// P17.1, P17.4 at the bounds

// owedFor is of so many rules, each of which permits for an atom of its own with a duty of its own: all sets of atoms are told apart.
func owedFor(n int) api.Policy {
	p := simple("p", api.DenyUnless)
	for i := range n {
		p.Rules = append(p.Rules, api.Rule{Id: "r" + strconv.Itoa(i), Target: allOf(i), Obls: []api.Obl{duty(1, "d"+strconv.Itoa(i))}})
	}
	return p
}

// without a diagram: the package decides all the same, by many rows and without a request.
func without(t *testing.T, what string, p api.Policy, l []api.Atom) {
	t.Helper()
	refused(t, what, p, api.ErrLimit)
	m := maker{}
	for range 20 {
		g := answering(l, m.row(len(l)))
		decides(t, what, p, g, decided(t, p, g))
	}
	decides(t, what, p, nil, decided(t, p, nil))
}

// with asks of a diagram of many atoms by many rows.
func with(t *testing.T, what string, p api.Policy, branches int) *compile.Diagram {
	t.Helper()
	d, l := diagram(t, what, p), atoms(t, p)
	sizes(t, what, d, branches)
	m := maker{}
	for range 200 {
		row := m.row(len(l))
		g := answering(l, row)
		want := decided(t, p, g)
		answers(t, what, d, row, want)
		if r, n := d.Decide(g); !same(r, want) || n > len(l) {
			t.Fatalf("%s: by %v: %s, asked %d of %d, not %s", what, row, told(r), n, len(l), told(want))
		}
	}
	decides(t, what, p, nil, decided(t, p, nil))
	return d
}

// So many branches as may be, and one more.
func TestMostBranches(t *testing.T) {
	for n := range 11 {
		with(t, "all sets apart", owedFor(n), 1<<n-1)
	}
	for n := 11; n <= maxKids; n++ {
		without(t, "all sets apart", owedFor(n), atoms(t, owedFor(n)))
	}
	// An eleventh atom matters just where the other ten let it.
	a := func(l ...int) []api.Match { return allOf(l...)[0][0] }
	for _, c := range []struct {
		lets     [][]api.Match
		branches int
	}{
		{[][]api.Match{a(0)}, 1023 + 512},
		{[][]api.Match{a(0), a(1), a(2), a(3), a(4, 5)}, 1023 + 976},
		{[][]api.Match{a(0), a(1), a(2), a(3), a(4, 5), a(4, 6, 7, 8, 9)}, 2000},
		{[][]api.Match{a(0), a(1), a(2), a(3), a(4, 5), a(4, 6, 7, 8)}, 2001},
		{[][]api.Match{a(0), a(1), a(2), a(3), a(4), a(5)}, 1023 + 1008},
	} {
		p := owedFor(10)
		p.Rules = append(p.Rules, api.Rule{Id: "r", Target: api.Target{c.lets, allOf(10)[0]}, Obls: []api.Obl{duty(1, "r")}})
		if c.branches <= maxDag {
			with(t, "an eleventh", p, c.branches)
			continue
		}
		without(t, "an eleventh", p, atoms(t, p))
		// Whether it is told where the whole would have less isn't said; but not otherwise than it is.
		p.Rules = append([]api.Rule{{Id: "q"}}, p.Rules...)
		p.Alg = api.FirstApplicable
		if d, err := compile.Of(p); err == api.OK {
			sizes(t, "behind one for all", d, 0)
		} else {
			without(t, "behind one for all", p, atoms(t, p))
		}
	}
}

// All rows of seven atoms may be told apart, but not all of eight.
func TestSevenAndEight(t *testing.T) {
	d, want := holds(t, "seven", tellingAll("s", 0, 1, 2, 3, 4, 5, 6))
	sizes(t, "seven", d, 1093)
	if slices.Max(want.numbers) != 2186 {
		t.Error(slices.Max(want.numbers))
	}
	p := tellingAll("s", 0, 1, 2, 3, 4, 5, 6, 7)
	without(t, "eight", p, atoms(t, p))
	s := set("t", api.FirstApplicable, p)
	without(t, "eight, in a set", s, atoms(t, s))
	s = set("t", api.DenyOverrides, simple("q", api.DenyUnless), p)
	without(t, "eight, behind another", s, atoms(t, s))
}

// inRow is a policy by which one atom after another is asked.
func inRow(n int, deny func(i int) bool) api.Policy {
	s := set("s", api.FirstApplicable)
	for i := range n {
		if i%maxKids == 0 {
			s.Kids = append(s.Kids, simple("k"+strconv.Itoa(i), api.FirstApplicable))
		}
		kid := &s.Kids[i/maxKids]
		r := api.Rule{Id: "r" + strconv.Itoa(i), Deny: deny(i), Target: allOf(i)}
		if i%3 == 0 {
			r.Target, r.Cond = nil, cond(i)
		}
		kid.Rules = append(kid.Rules, r)
	}
	return s
}

// As many atoms as may be, and one more.
func TestMostAtoms(t *testing.T) {
	mixed := func(i int) bool { return i%2 == 0 }
	for _, n := range []int{1, 2, 7, 31, 32, 33, 48, 63, 64} {
		p := inRow(n, mixed)
		d := with(t, "in a row", p, n)
		l := atoms(t, p)
		if len(l) != n {
			t.Fatal(len(l), n)
		}
		for i := range n {
			row := make([]int, n)
			g := answering(l, row)
			comes(t, "all no", d, g, api.Result{}, n)
			for answer := 1; answer < 3; answer++ {
				row[i] = answer
				g = answering(l, row)
				comes(t, "one of them", d, g, decided(t, p, g), i+1)
				answers(t, "one of them", d, row, decided(t, p, g))
			}
			row[i] = 2
			answers(t, "what lies behind isn't asked", d, row[:i+1], decided(t, p, answering(l, row)))
		}
	}
	p := inRow(maxVars, mixed)
	p.Target = allOf(maxVars)
	refused(t, "one more", p, api.ErrLimit)
	g := append(answering([]api.Atom{{Match: asks(maxVars)}}, []int{2}), answering(atoms(t, inRow(maxVars, mixed)), make([]int, maxVars))...)
	for i := range maxVars {
		g[1+i].Bag = []api.Value{whole(1)}
		decides(t, "one more", p, g, decided(t, p, g))
		g[1+i].Bag = []api.Value{whole(2)}
	}
	p.Target = allOf(1)
	if l, err := vars.Of(p); len(l) != maxVars || err != api.OK {
		t.Fatal(len(l), err)
	}
	diagram(t, "as many", p)
}

// One target of as many atoms as may be: of all of them in one list, in eight, and in eight of one each.
func TestMostAtomsOfTargets(t *testing.T) {
	var l []int
	for i := range maxVars {
		l = append(l, i)
	}
	var anyOf [][]api.Match
	var target api.Target
	for chunk := range slices.Chunk(l, maxMatch) {
		anyOf = append(anyOf, allOf(chunk...)[0][0])
		var alone [][]api.Match
		for _, i := range chunk {
			alone = append(alone, []api.Match{asks(i)})
		}
		target = append(target, alone)
	}
	rule := api.Rule{Id: "r", Deny: true, Obls: []api.Obl{duty(2, "a")}}
	for _, t64 := range []api.Target{{anyOf}, target} {
		p := simple("p", api.DenyOverrides, rule)
		p.Target = t64
		if len(atoms(t, p)) != maxVars {
			t.Fatal("not all")
		}
		// Fifteen each, and behind the first eight more: if the others aren't known, those that aren't either say nothing.
		n := 15 + 7*(15+8)
		with(t, "a policy's", p, n)
		q := simple("p", api.DenyOverrides, rule)
		q.Rules[0].Target = t64
		with(t, "a rule's", q, n)
	}
	// Of all in one list, but for what may stand there: each but the last is asked in two moods.
	eight := simple("p", api.DenyOverrides, rule)
	eight.Target = allOf(0, 1, 2, 3, 4, 5, 6, 7)
	with(t, "eight", eight, 15)
	eight.Target = api.Target{allOf(0, 1, 2, 3, 4, 5, 6, 7)[0], allOf(8, 9, 10, 11, 12, 13, 14, 15)[0], allOf(16)[0]}
	with(t, "seventeen", eight, 33)
}

// A target of which more is left to be told than there are branches: in a rule and in a policy, wherever they stand.
func TestTooMuchOnTheWay(t *testing.T) {
	var either, pairs [][]api.Match
	for i := range maxMatch {
		either = append(either, allOf(i)[0][0])
		pairs = append(pairs, allOf(i, maxMatch+i)[0][0])
	}
	target := api.Target{either, pairs}
	rule := simple("p", api.FirstApplicable, api.Rule{Id: "q"}, api.Rule{Id: "r", Target: target})
	whole := simple("p", api.FirstApplicable, api.Rule{Id: "q"})
	whole.Target = target
	for _, p := range []api.Policy{
		rule, whole,
		set("s", api.DenyOverrides, rule), set("s", api.PermitOverrides, simple("q2", api.DenyUnless), whole),
		set("s", api.DenyUnless, set("u", api.OnlyOne, simple("q2", api.DenyUnless), set("v", api.FirstApplicable, whole))),
	} {
		if len(atoms(t, p)) != 2*maxMatch {
			t.Fatal("not all")
		}
		without(t, "too much", p, atoms(t, p))
	}
}
