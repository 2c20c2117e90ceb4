package eval_test

import (
	"strconv"
	"testing"

	"bailiff/api"
	"bailiff/parse"
)

// P14.3

// read is a policy that is written as text.
func read(t *testing.T, s string) api.Policy {
	t.Helper()
	p, err, at := parse.Policy(s)
	if err != api.OK {
		t.Fatalf("%s: error %d at %d", s, err, at)
	}
	return p
}

// says asks a policy that is written as text: for its decision, and for what its duties are of, in order.
func says(t *testing.T, s string, g []api.Given, m api.Mark, args ...string) {
	t.Helper()
	got := decided(t, read(t, s), g)
	ok := got.Mark == m && len(got.Obls) == len(args)
	for i := range args {
		ok = ok && got.Obls[i].Arg == args[i]
	}
	if !ok {
		t.Errorf("%s of %+v: %s, not %v %v", s, g, told(got), m, args)
	}
}

func TestTheRuns(t *testing.T) {
	s := "policy p denyover { permit r on permit log a; deny d when (case.x = 1) on deny notify b; } on permit review c"
	p := read(t, s)
	comes(t, "no x", p, nil, api.Result{Mark: api.Permit, Obls: []api.Obl{{On: 1, Kind: api.OLog, Arg: "a"}, {On: 1, Kind: api.OReview, Arg: "c"}}})
	comes(t, "x 1", p, x(whole(1)), api.Result{Mark: api.Deny, Obls: []api.Obl{{On: 2, Kind: api.ONotify, Arg: "b"}}})
	comes(t, `x "a"`, p, x(text("a")), api.Result{Mark: api.IndetDP})
}

// ways is how often the makers are asked for other targets and conditions.
const ways = 20

// What policiesTo makes comes to what it says, under a target of each truth, so that other tests may lean on it.
func TestPoliciesAsMade(t *testing.T) {
	for _, m := range six() {
		for way := range ways {
			for _, p := range policiesTo(m, "p", way) {
				comes(t, "as made", p.is, known(), p.want)
			}
		}
	}
}

// Each algorithm but OnlyOne over all rows of rules, under targets of each truth.
func TestAllRowsOfRules(t *testing.T) {
	for way, marks := range rows(six()[:5], 4) {
		var l []api.Rule
		var wants []api.Result
		for i, m := range marks {
			name := "r" + strconv.Itoa(i)
			r := pickOf(rulesTo(m, name, way/3+i), way+i)
			l, wants = append(l, r.is), append(wants, r.want)
		}
		for _, alg := range algorithms() {
			if alg == api.OnlyOne {
				continue
			}
			for truth := range 3 {
				comes(t, "a row of rules", under(truth, plain("p", alg, l...), way), known(), ofParts(truth, alg, wants, dutiesOf("p")))
			}
		}
	}
}

// Each algorithm over all rows of kids, under targets of each truth.
func TestAllRowsOfKids(t *testing.T) {
	for way, marks := range rows(six(), 4) {
		l, wants := kidsTo(marks, way)
		for _, alg := range algorithms() {
			for truth := range 3 {
				comes(t, "a row of kids", under(truth, set("s", alg, l...), way), known(), ofParts(truth, alg, wants, dutiesOf("s")))
			}
		}
	}
}

func kidsTo(marks []api.Mark, way int) ([]api.Policy, []api.Result) {
	var l []api.Policy
	var wants []api.Result
	for i, m := range marks {
		p := pickOf(policiesTo(m, "k"+strconv.Itoa(i), way/3+i), way+i)
		l, wants = append(l, p.is), append(wants, p.want)
	}
	return l, wants
}

// Two kids by each algorithm, line by line by the first one, in the order of six.
func TestTwoByTables(t *testing.T) {
	const na, p, d, ip, id, dp = api.NotApplicable, api.Permit, api.Deny, api.IndetP, api.IndetD, api.IndetDP
	tables := map[int][6][6]api.Mark{
		api.DenyOverrides:   {{na, p, d, ip, id, dp}, {p, p, d, p, dp, dp}, {d, d, d, d, d, d}, {ip, p, d, ip, dp, dp}, {id, dp, d, dp, id, dp}, {dp, dp, d, dp, dp, dp}},
		api.PermitOverrides: {{na, p, d, ip, id, dp}, {p, p, p, p, p, p}, {d, p, d, dp, d, dp}, {ip, p, dp, ip, dp, dp}, {id, p, d, dp, id, dp}, {dp, p, dp, dp, dp, dp}},
		api.FirstApplicable: {{na, p, d, ip, id, dp}, {p, p, p, p, p, p}, {d, d, d, d, d, d}, {ip, ip, ip, ip, ip, ip}, {id, id, id, id, id, id}, {dp, dp, dp, dp, dp, dp}},
		api.OnlyOne:         {{na, p, d, dp, dp, dp}, {p, dp, dp, dp, dp, dp}, {d, dp, dp, dp, dp, dp}, {dp, dp, dp, dp, dp, dp}, {dp, dp, dp, dp, dp, dp}, {dp, dp, dp, dp, dp, dp}},
		api.DenyUnless:      {{d, p, d, d, d, d}, {p, p, p, p, p, p}, {d, p, d, d, d, d}, {d, p, d, d, d, d}, {d, p, d, d, d, d}, {d, p, d, d, d, d}},
		api.PermitUnless:    {{p, p, d, p, p, p}, {p, p, d, p, p, p}, {d, d, d, d, d, d}, {p, p, d, p, p, p}, {p, p, d, p, p, p}, {p, p, d, p, p, p}},
	}
	for _, alg := range algorithms() {
		for i, first := range six() {
			for k, second := range six() {
				for way := range ways {
					l, _ := kidsTo([]api.Mark{first, second}, way)
					got := decided(t, set("s", alg, l...), known())
					if want := tables[alg][i][k]; got.Mark != want {
						t.Fatalf("%d of %v, %v: %v, not %v", alg, first, second, got.Mark, want)
					}
				}
			}
		}
	}
}

// A policy's target that isn't known, over each decision; one that isn't met, over each; of policies and sets.
func TestTargetsOverEachDecision(t *testing.T) {
	for _, m := range six() {
		for way := range ways {
			for _, p := range policiesTo(m, "k", way) {
				p.is.Target = nil
				base := decided(t, p.is, known())
				for _, alg := range algorithms()[:4] {
					over := set("s", alg, p.is)
					met := joined(alg, []api.Mark{base.Mark})
					for _, l := range targets(0) {
						over.Target, p.is.Target = l, l
						comes(t, "not met", over, known(), api.Result{})
						comes(t, "not met", p.is, known(), api.Result{})
					}
					for _, l := range targets(1) {
						over.Target, p.is.Target = l, l
						comes(t, "not known", over, known(), api.Result{Mark: unsure(met)})
						comes(t, "not known", p.is, known(), api.Result{Mark: unsure(base.Mark)})
					}
					for _, l := range targets(2) {
						over.Target, p.is.Target = l, l
						comes(t, "met", over, known(), ofParts(2, alg, []api.Result{base}, dutiesOf("s")))
						comes(t, "met", p.is, known(), base)
					}
				}
			}
		}
	}
}

// A kid's or a rule's target is its own: that the policy above is met or not known doesn't change what it comes to by itself.
func TestPoliciesWrittenOut(t *testing.T) {
	s := "policy p first { permit r if false; deny d if (eq 1 \"a\"); permit s; }"
	says(t, s, nil, api.IndetD)
	s = "policy p first when (case.x > 1) { deny d when (case.x > 5) on deny log a; permit r on permit log b; } on permit log c on deny log d"
	says(t, s, nil, api.NotApplicable)
	says(t, s, x(whole(1)), api.NotApplicable)
	says(t, s, x(whole(2)), api.Permit, "b", "c")
	says(t, s, x(whole(6)), api.Deny, "a", "d")
	says(t, s, x(whole(3), whole(9)), api.Deny, "a", "d")
	says(t, s, x(text("a")), api.IndetD)
	says(t, s, x(text("a"), whole(2)), api.IndetD)
	says(t, s, x(text("a"), whole(7)), api.Deny, "a", "d")

	s = "set s only { policy p denyunless when (case.x = 1) { permit r if (has case.y #a) on permit log a; } policy q permitunless when (case.x = 2) { deny d if (has case.y #b) on deny log b; } } on permit log c on deny log d"
	y := func(names ...string) api.Given {
		g := given(api.CCase, "y")
		for _, name := range names {
			g.Bag = append(g.Bag, id(name))
		}
		return g
	}
	says(t, s, nil, api.NotApplicable)
	says(t, s, x(whole(1)), api.Deny, "d")
	says(t, s, x(whole(2)), api.Permit, "c")
	says(t, s, append(x(whole(1)), y("a")), api.Permit, "a", "c")
	says(t, s, append(x(whole(2)), y("a", "b")), api.Deny, "b", "d")
	says(t, s, append(x(whole(2), whole(1)), y("a", "b")), api.IndetDP)
	says(t, s, x(text("a")), api.IndetDP)
	says(t, s, x(text("a"), whole(1)), api.IndetDP)
	says(t, s, x(whole(3)), api.NotApplicable)
}
