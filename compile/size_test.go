package compile_test

import (
	"slices"
	"strconv"
	"testing"

	"bailiff/api"
)

// P17.3: how many branches, and how many atoms are asked

// is asks of a policy how many branches its diagram has, and all else by every row.
func is(t *testing.T, s string, branches int) {
	t.Helper()
	d, _ := holds(t, s, read(t, s))
	sizes(t, s, d, branches)
}

func TestRuns(t *testing.T) {
	d := diagram(t, "first", read(t, "policy p first { permit r when (case.x = 1); deny d; }"))
	sizes(t, "first", d, 1)
	comes(t, "x 1", d, x(whole(1)), api.Result{Mark: api.Permit}, 1)
	comes(t, "no x", d, nil, api.Result{Mark: api.Deny}, 1)
	d = diagram(t, "denyunless", read(t, "policy p denyunless { deny d when (case.x = 1); }"))
	sizes(t, "denyunless", d, 0)
	comes(t, "x 1", d, x(whole(1)), api.Result{Mark: api.Deny}, 0)
}

// Policies without atoms: there is nothing to ask.
func TestNothingToAsk(t *testing.T) {
	for _, alg := range algorithms() {
		for _, p := range []api.Policy{
			simple("p", alg), set("p", alg), set("p", alg, set("q", alg)),
			set("p", alg, simple("q", api.DenyUnless), simple("r", api.PermitUnless)),
			simple("p", alg, owing("a", false, nil, nil)), simple("p", alg, owing("a", true, nil, nil)),
			simple("p", alg, owing("a", false, nil, nil), owing("b", true, nil, nil)),
			set("p", alg, simple("q", api.DenyOverrides, owing("a", true, nil, nil)), set("r", api.OnlyOne, simple("u", api.FirstApplicable, owing("b", false, nil, nil)))),
		} {
			if !p.Set && alg == api.OnlyOne {
				continue
			}
			for _, l := range [][]api.Obl{nil, {}, own("p")} {
				p.Obls = l
				d, want := holds(t, "no atom", p)
				sizes(t, "no atom", d, 0)
				for _, g := range [][]api.Given{nil, {}, x(whole(1)), {{}}} {
					comes(t, "no atom", d, g, want.results[0], 0)
				}
				answers(t, "no atom", d, []int{0, 2, 1}, want.results[0])
			}
		}
	}
}

// One atom, wherever it stands.
func TestOneAtom(t *testing.T) {
	for _, s := range []string{
		"policy p first when (case.a0 = 1) { permit r; }",
		"policy p denyunless { permit r when (case.a0 = 1); }",
		"policy p permitover { deny r if (eq (one case.a0) 1); }",
		"policy p denyover { deny r when (case.a0 = 1); permit q on permit log a; }",
		"set s only when (case.a0 = 1) { policy p permitunless { } }",
		"set s only { policy p permitunless when (case.a0 = 1) { } }",
		"set s first { set a denyover { set b permitover { policy p first { permit r when (case.a0 = 1); } } } }",
		"policy p first when (case.a0 = 1) { permit r when (case.a0 = 1, case.a0 = 1 or case.a0 = 1) and (case.a0 = 1); deny d when (case.a0 = 1); }",
		"set s denyover when (case.a0 = 1) { policy p first when (case.a0 = 1) { permit r when (case.a0 = 1); } policy q permitover when (case.a0 = 1) { permit u when (case.a0 = 1); } }",
	} {
		is(t, s, 1)
	}
}

// Atoms whose answer doesn't matter, all or some of them.
func TestWhatDoesNotMatter(t *testing.T) {
	for s, branches := range map[string]int{
		"policy p denyunless { deny r when (case.a0 = 1) if (eq (one case.a1) 1); }":                                                                                               0,
		"policy p permitunless when (case.a0 = 1) { permit r when (case.a1 = 1); }":                                                                                                1,
		"policy p first { permit a; deny b when (case.a0 = 1) on deny log b; }":                                                                                                    0,
		"policy p denyover { deny a; permit b when (case.a0 = 1) on permit log b; }":                                                                                               0,
		"policy p denyover { permit b when (case.a0 = 1) on permit log b; deny a; deny c when (case.a1 = 1); }":                                                                    0,
		"policy p denyover { deny a; deny c when (case.a1 = 1) on deny log c; }":                                                                                                   1,
		"policy p permitover when (case.a0 = 1) { }":                                                                                                                               0,
		"set s only { policy a permitunless { } policy b first when (case.a0 = 1) { } policy c denyunless { } }":                                                                   0,
		"set s only { policy a permitunless { } policy b first when (case.a0 = 1) { permit r; } policy c denyunless { permit d when (case.a1 = 1); } }":                            0,
		"set s denyunless { policy a first when (case.a0 = 1) { deny r; } policy b permitover { permit q when (case.a1 = 1); } policy c first { deny u when (case.a2 = 1); } }":    1,
		"policy p first { permit r when (case.a0 = 1 or case.a0 = 1, case.a1 = 1); }":                                                                                              1,
		"policy p first { permit r when (case.a0 = 1) and (case.a0 = 1 or case.a1 = 1); }":                                                                                         1,
		"policy p first { permit r when (case.a0 = 1) on permit log a; permit q when (case.a1 = 1) on permit log a; }":                                                             2,
		"policy p first { permit r when (case.a0 = 1, case.a1 = 1, case.a2 = 1); }":                                                                                                5,
		"policy p first { permit r when (case.a0 = 1 or case.a1 = 1 or case.a2 = 1); }":                                                                                            5,
		"policy p first when (case.a0 = 1) { permit r if (eq (one case.a1) 1); }":                                                                                                  3,
		"policy p permitunless { deny r when (case.a0 = 1, case.a1 = 1, case.a2 = 1, case.a3 = 1); }":                                                                              4,
		"policy p permitunless when (case.a4 = 1) { deny r when (case.a0 = 1, case.a1 = 1, case.a2 = 1, case.a3 = 1); }":                                                           9,
		"policy p denyunless { permit a when (case.a0 = 1) on permit log a; permit b when (case.a1 = 1) on permit log b; permit c when (case.a2 = 1) on permit log c; }":           7,
		"policy p denyunless { permit a when (case.a0 = 1) on permit log a; permit b when (case.a1 = 1) on permit log a; permit c when (case.a2 = 1) on permit log a; }":           6,
		"policy p denyunless { permit a when (case.a0 = 1) on deny log a; permit b when (case.a1 = 1) on deny log b; permit c when (case.a2 = 1) on deny log c; } on permit log a": 3,
	} {
		p := read(t, s)
		d, _ := holds(t, s, p)
		if d.Size() != branches {
			t.Errorf("%s: %d, not %d", s, d.Size(), branches)
		}
	}
}

// What is asked hangs on what was answered: by each row of a policy of which that is known.
func TestHowManyAreAsked(t *testing.T) {
	// Rules for one each, in their order: no further one is asked behind the first that isn't passed by.
	p := simple("p", api.FirstApplicable)
	for i := range 6 {
		p.Rules = append(p.Rules, api.Rule{Id: "r" + strconv.Itoa(i), Deny: i%2 == 0, Target: allOf(i)})
	}
	d := diagram(t, "first", p)
	sizes(t, "first", d, 6)
	l := atoms(t, p)
	for _, row := range rows(6) {
		n := 0
		for n < 6 && row[n] == 0 {
			n++
		}
		comes(t, "first", d, answering(l, row), answered{l, row}.policy(p), min(n+1, 6))
	}
	// All matches of one target: no further one behind the first that isn't met, and by one that isn't known all the others.
	p = simple("p", api.FirstApplicable, api.Rule{Id: "r", Target: allOf(0, 1, 2, 3, 4, 5)})
	d = diagram(t, "all", p)
	sizes(t, "all", d, 11)
	for _, row := range rows(6) {
		n := slices.Index(row, 0)
		if n < 0 {
			n = 5
		}
		comes(t, "all", d, answering(l, row), answered{l, row}.policy(p), n+1)
	}
}

// A diagram that asks three of nine atoms, and knows.
func TestThreeOfNine(t *testing.T) {
	p := read(t, "set s denyover when (case.a0 = 1) { policy p first when (case.a1 = 1, case.a2 = 1) { permit r when (case.a3 = 1); deny q when (case.a4 = 1); } policy u permitover when (case.a5 = 1) { permit v when (case.a6 = 1, case.a7 = 1); deny w if (eq (one case.a8) 1); } }")
	d, l := diagram(t, "nine", p), atoms(t, p)
	if len(l) != 9 {
		t.Fatal(len(l))
	}
	g := answering(l, []int{2, 0, 1, 1, 1, 0, 1, 1, 1})
	comes(t, "three of nine", d, g, decided(t, p, g), 3)
	g = answering(l, []int{0, 0, 1, 1, 1, 0, 1, 1, 1})
	comes(t, "one of nine", d, g, decided(t, p, g), 1)
	g = answering(l, []int{2, 2, 2, 2, 1, 2, 2, 2, 1})
	comes(t, "seven of nine", d, g, decided(t, p, g), 7)
	want := tableOf(p, l)
	sizes(t, "nine", d, least(want.numbers))
	for i, row := range rows(9) {
		comes(t, "nine", d, answering(l, row), want.results[i], asked(want.numbers, row))
		answers(t, "nine", d, row, want.results[i])
	}
}
