package eval_test

import (
	"slices"
	"strings"
	"testing"

	"bailiff/api"
	"bailiff/eval"
)

// P14.2

// table is what a rule comes to, that permits and that denies: line by line by its target, place by place by its condition.
func table(deny bool, t, c int) api.Mark {
	const na, p, d, ip, id = api.NotApplicable, api.Permit, api.Deny, api.IndetP, api.IndetD
	if deny {
		return [3][3]api.Mark{{na, na, na}, {id, id, id}, {na, id, d}}[t][c]
	}
	return [3][3]api.Mark{{na, na, na}, {ip, ip, ip}, {na, ip, p}}[t][c]
}

// effects are both, as Deny says them.
func effects() []bool { return []bool{false, true} }

func TestEachPairing(t *testing.T) {
	for _, deny := range effects() {
		for truth := range 3 {
			for c := range 3 {
				m := table(deny, truth, c)
				for _, l := range targets(truth) {
					for _, cond := range conds(c) {
						r := api.Rule{Id: "r", Deny: deny, Target: l, Cond: cond, Obls: dutiesOf("r")}
						ruleComes(t, "a pairing", r, known(), api.Result{Mark: m, Obls: dutiesOn("r", m)})
						// A policy of that rule alone, without duties.
						p := api.Policy{Id: "p", Alg: api.FirstApplicable, Rules: []api.Rule{r}}
						comes(t, "a pairing, in a policy", p, known(), api.Result{Mark: m, Obls: dutiesOn("r", m)})
					}
				}
			}
		}
	}
}

// What rulesTo makes comes to what it says, so that other tests may lean on it.
func TestRulesAsMade(t *testing.T) {
	for _, m := range six() {
		for way := range 20 {
			for _, r := range rulesTo(m, "r", way) {
				ruleComes(t, "as made", r.is, known(), r.want)
			}
		}
	}
}

// A rule with a target, a condition, both, neither, of requests that differ.
func TestRulesWrittenOut(t *testing.T) {
	late := api.Target{{{{Attr: attr(api.CCase, "x"), Op: api.MMore, Value: whole(5)}}}}
	odd := do(api.NEq, do(api.NOne, of(attr(api.CCase, "y"))), lit(whole(1)))
	y := func(n int) api.Given { return given(api.CCase, "y", whole(n)) }
	for _, c := range []struct {
		what                       string
		g                          []api.Given
		neither, target, cond, all api.Mark
	}{
		{"nothing", nil, api.Permit, api.NotApplicable, api.IndetP, api.NotApplicable},
		{"x above", x(whole(6)), api.Permit, api.Permit, api.IndetP, api.IndetP},
		{"x not above", x(whole(5)), api.Permit, api.NotApplicable, api.IndetP, api.NotApplicable},
		{"x a text", x(text("6")), api.Permit, api.IndetP, api.IndetP, api.IndetP},
		{"y", []api.Given{y(1)}, api.Permit, api.NotApplicable, api.Permit, api.NotApplicable},
		{"x above, y", append(x(whole(6)), y(1)), api.Permit, api.Permit, api.Permit, api.Permit},
		{"x above, another y", append(x(whole(6)), y(2)), api.Permit, api.Permit, api.NotApplicable, api.NotApplicable},
		{"x not above, another y", append(x(whole(0)), y(2)), api.Permit, api.NotApplicable, api.NotApplicable, api.NotApplicable},
		{"x a text, y", append(x(text("6")), y(1)), api.Permit, api.IndetP, api.Permit, api.IndetP},
		{"x a text, another y", append(x(text("6")), y(2)), api.Permit, api.IndetP, api.NotApplicable, api.IndetP},
	} {
		for _, r := range []struct {
			is   api.Rule
			want api.Mark
		}{{api.Rule{}, c.neither}, {api.Rule{Target: late}, c.target}, {api.Rule{Cond: odd}, c.cond}, {api.Rule{Target: late, Cond: odd}, c.all}} {
			ruleComes(t, c.what, r.is, c.g, api.Result{Mark: r.want})
			r.is.Deny, r.is.Obls = true, dutiesOf("d")
			ruleComes(t, c.what+", of a rule that denies", r.is, c.g, api.Result{Mark: turned(r.want), Obls: dutiesOn("d", turned(r.want))})
		}
	}
}

// turned is the other side's decision.
func turned(m api.Mark) api.Mark {
	return map[api.Mark]api.Mark{api.Permit: api.Deny, api.Deny: api.Permit, api.IndetP: api.IndetD, api.IndetD: api.IndetP, api.IndetDP: api.IndetDP}[m]
}

// Duties of each kind, on each of both and on none: as many as may be, and more.
func TestRulesDuties(t *testing.T) {
	var each []api.Obl
	for _, on := range []int{2, 1, 3, 0} {
		for kind := api.OLog; kind <= api.ONotify; kind++ {
			each = append(each, api.Obl{On: on, Kind: kind, Arg: "x"})
		}
	}
	onDeny, onPermit := each[:4], each[4:8]
	ruleComes(t, "each duty", api.Rule{Obls: each}, nil, api.Result{Mark: api.Permit, Obls: onPermit})
	ruleComes(t, "each duty", api.Rule{Deny: true, Obls: each}, nil, api.Result{Mark: api.Deny, Obls: onDeny})
	for truth := range 3 {
		for c := range 3 {
			r := api.Rule{Target: targets(truth)[0], Cond: conds(c)[0], Obls: each}
			if m := table(false, truth, c); m != api.Permit {
				ruleComes(t, "not sure", r, known(), api.Result{Mark: m})
			}
		}
	}
	for n := range 40 {
		many := slices.Repeat(each, n)
		ruleComes(t, "many", api.Rule{Obls: many}, nil, api.Result{Mark: api.Permit, Obls: slices.Repeat(onPermit, n)})
		ruleComes(t, "many", api.Rule{Deny: true, Obls: many}, nil, api.Result{Mark: api.Deny, Obls: slices.Repeat(onDeny, n)})
	}
}

// Rules that aren't right are asked like others: what target.Met and expr.Cond say of their parts holds.
func TestRulesThatAreNotRight(t *testing.T) {
	short, long := []api.Node{{Op: api.NAnd}}, slices.Repeat(lit(boolean(1)), maxExpr+1)
	for _, deny := range effects() {
		is := func(what string, r api.Rule, truth, c int) {
			t.Helper()
			r.Deny, r.Obls = deny, dutiesOf("r")
			m := table(deny, truth, c)
			ruleComes(t, what, r, known(), api.Result{Mark: m, Obls: dutiesOn("r", m)})
		}
		for truth := range 3 {
			l := targets(truth)[0]
			is("no expression", api.Rule{Target: l, Cond: short}, truth, 1)
			is("too long an expression", api.Rule{Target: l, Cond: long}, truth, 1)
			is("a bag", api.Rule{Target: l, Cond: of(attr(api.CEnv, "odd"))}, truth, 1)
			is("no name", api.Rule{Target: l}, truth, 2)
			is("a wrong name", api.Rule{Id: "A b", Target: l}, truth, 2)
			is("a long name", api.Rule{Id: strings.Repeat("a", 99), Target: l}, truth, 2)
		}
		for c := range 3 {
			cond := conds(c)[0]
			is("an AnyOf without AllOfs", api.Rule{Target: api.Target{{}}, Cond: cond}, 0, c)
			is("an AllOf without matches", api.Rule{Target: api.Target{{{}}}, Cond: cond}, 2, c)
			is("a wrong attribute", api.Rule{Target: api.Target{{{{Attr: must(0, ""), Op: api.MEq}}}}, Cond: cond}, 1, c)
			is("more AnyOfs than may be", api.Rule{Target: slices.Repeat(targets(1)[0], 99), Cond: cond}, 1, c)
			is("no Op", api.Rule{Target: api.Target{{{{Attr: attr(api.CEnv, "odd"), Value: whole(0)}}}}, Cond: cond}, 2, c)
		}
	}
}

// What a rule is called says nothing, nor do its duties.
func TestNamesOfRules(t *testing.T) {
	for _, m := range six() {
		for way, r := range rulesTo(m, "r", 3) {
			for _, name := range []string{"", "role", "due", "permit", "deny", "d", "\xff"} {
				r.is.Id = name
				ruleComes(t, "of another name", r.is, known(), r.want)
			}
			r.is.Obls = nil
			if got := eval.Rule(r.is, known()); got.Mark != m || len(got.Obls) != 0 {
				t.Errorf("%v, %d: %s", m, way, told(got))
			}
		}
	}
}
