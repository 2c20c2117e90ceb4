package eval_test

import (
	"slices"
	"testing"

	"bailiff/api"
)

// P14.4

// Whose duties stand beside the decision, and in which order: written out.
func TestWhoseDuties(t *testing.T) {
	for _, c := range []struct {
		what, s string
		m       api.Mark
		args    []string
	}{
		{"those that came to it", "policy p permitover { permit a on permit log a; deny b on deny log b; permit c on permit log c; permit d if false on permit log d; permit e if 1 on permit log e; permit f on deny log f; permit g on permit log g; } on deny log x on permit log y on permit log z", api.Permit, []string{"a", "c", "g", "y", "z"}},
		{"those that came to it", "policy p denyover { permit a on permit log a; deny b on deny log b; permit c on permit log c; deny d if false on deny log d; deny e if 1 on deny log e; deny f on permit log f; deny g on deny log g; } on deny log x on permit log y on deny log z", api.Deny, []string{"b", "g", "x", "z"}},
		{"by unlike policies, too", "set s denyover { policy a first { permit b on permit log b; } on permit log a policy c denyunless { permit d on permit log d; } on permit log c policy e permitunless { } on permit log e } on permit log s", api.Permit, []string{"b", "a", "d", "c", "e", "s"}},
		{"of the first alone", "policy p first { deny a if false on deny log a; permit b when (case.x = 1) on permit log b; permit c on permit log c on deny log d; permit e on permit log e; deny f on deny log f; } on permit log x", api.Permit, []string{"c", "x"}},
		{"of the first alone, without any", "policy p first { deny a; deny b on deny log b; } on deny log x", api.Deny, []string{"x"}},
		{"of the first kid alone", "set s first { policy a first { } on permit log a policy b permitunless { permit r on permit log r; permit q on permit log q; } on permit log b policy c first { permit d on permit log d; } } on permit log x", api.Permit, []string{"r", "q", "b", "x"}},
		{"of the only one", "set s only { policy a first { } on deny log a policy b denyunless { deny r on deny log r; } on deny log b policy c first when (case.x = 1) { deny d on deny log d; } }", api.Deny, []string{"r", "b"}},
		{"of none: the others are not sure", "policy p denyunless { permit a if 1 on permit log a; deny b if 1 on deny log b; } on deny log x on permit log y", api.Deny, []string{"x"}},
		{"of none: there are no others", "policy p permitunless { } on deny log x on permit log y", api.Permit, []string{"y"}},
		{"of those that deny, though none of them decided", "policy p denyunless { deny a on deny log a; permit b if false; deny c on deny log c; } on deny log x", api.Deny, []string{"a", "c", "x"}},
		{"of those that permit, though none of them decided", "policy p permitunless { permit a on permit log a; deny b if 1; permit c on permit log c; } on permit log x", api.Permit, []string{"a", "c", "x"}},
		{"of a kid's first alone, but of all kids", "set s permitover { policy a first { permit b on permit log b; permit c on permit log c; } policy d first { permit e on permit log e; permit f on permit log f; } }", api.Permit, []string{"b", "e"}},
		{"of a kid whose rules don't decide above", "set s denyover { set a denyunless { policy b first { permit c if 1 on permit log c on deny log d; } on deny log b } on deny log a on permit log e }", api.Deny, []string{"a"}},
		{"not of a kid that comes to the other one", "set s permitover { policy a denyunless { permit b if false on permit log b; } on deny log a policy c first { permit d on permit log d; } on permit log c } on deny log x on permit log y", api.Permit, []string{"d", "c", "y"}},
		{"not of what it is made of, if that came to the other one", "set s denyunless { policy a permitover { deny b on deny log b; permit c on permit log c; } on permit log a on deny log d }", api.Permit, []string{"c", "a"}},
		{"twice the same", "policy p denyover { permit a on permit log x on permit log x; permit b on permit log x; } on permit log x", api.Permit, []string{"x", "x", "x", "x"}},
		{"none", "policy p denyover { permit a; permit b on deny log b; } on deny log x", api.Permit, nil},
	} {
		says(t, c.s, nil, c.m, c.args...)
	}
}

// Duties of each kind, on each decision, of a rule, of a kid, of a kid's kid and of the policy itself.
func TestEachKindOfDuty(t *testing.T) {
	kind := func(on int) (l []api.Obl) {
		for k := api.OLog; k <= api.ONotify; k++ {
			l = append(l, api.Obl{On: on, Kind: k, Arg: "x"})
		}
		return l
	}
	both := slices.Concat(kind(2), kind(1))
	for _, deny := range effects() {
		on, m := 1, api.Permit
		if deny {
			on, m = 2, api.Deny
		}
		p := api.Policy{Id: "p", Alg: api.DenyOverrides, Rules: []api.Rule{{Id: "r", Deny: deny, Obls: both}}}
		for depth := range maxDeep - 1 {
			comes(t, "of a rule", p, nil, api.Result{Mark: m, Obls: slices.Repeat(kind(on), 1+depth)})
			p.Obls = both
			comes(t, "of a rule and of the policy", p, nil, api.Result{Mark: m, Obls: slices.Repeat(kind(on), 2+depth)})
			p = api.Policy{Id: string(rune('a' + depth)), Set: true, Alg: api.DenyOverrides, Kids: []api.Policy{p}}
		}
	}
}

// A decision that isn't sure has no duties, whatever it is made of; beside NotApplicable there are none either.
func TestNotSureHasNone(t *testing.T) {
	for _, s := range []string{
		"policy p denyover { permit a on permit log a; deny b if 1 on deny log b; } on permit log c on deny log d",
		"policy p permitover { deny a on deny log a; permit b if 1 on permit log b; } on permit log c on deny log d",
		"set s only { policy a first { permit b on permit log b; } on permit log a policy c first { permit d on permit log d; } } on permit log x on deny log y",
		"set s only { policy a first { deny b on deny log b; } policy c first { permit d on permit log d; } } on permit log x on deny log y",
	} {
		says(t, s, nil, api.IndetDP)
	}
	says(t, "policy p first { permit a if 1 on permit log a; permit b on permit log b; } on permit log c", nil, api.IndetP)
	says(t, "policy p first when (case.x! = 1) { permit b on permit log b; } on permit log c", nil, api.IndetP)
	says(t, "policy p denyunless when (case.x! = 1) { deny b on deny log b; } on deny log c on permit log d", nil, api.IndetD)
	says(t, "policy p permitunless when (case.x = 1) { permit b on permit log b; } on permit log c", nil, api.NotApplicable)
	says(t, "policy p first { } on permit log a on deny log b", nil, api.NotApplicable)
	// Above it, what isn't known may not matter.
	s := "set s permitover { policy a first when (case.x! = 1) { permit b on permit log b; } on permit log a policy c first { permit d on permit log d; } on permit log c } on permit log x"
	says(t, s, nil, api.Permit, "d", "c", "x")
	says(t, s, x(whole(1)), api.Permit, "b", "a", "d", "c", "x")
	says(t, s, x(whole(2)), api.Permit, "d", "c", "x")
}

// The one that came to the decision stands at each place among those that didn't.
func TestEachPlace(t *testing.T) {
	for at := range maxKids {
		for way := range ways {
			for _, m := range []api.Mark{api.Permit, api.Deny} {
				marks := slices.Repeat([]api.Mark{api.NotApplicable}, maxKids)
				marks[at] = m
				l, wants := kidsTo(marks, way)
				for _, alg := range algorithms() {
					comes(t, "one of nothing", set("s", alg, l...), known(), ofParts(2, alg, wants, dutiesOf("s")))
				}
				for i := range marks {
					marks[i] = pickOf([]api.Mark{turned(m), api.NotApplicable, unsure(m)}, i+way)
				}
				marks[at] = m
				l, wants = kidsTo(marks, way)
				for _, alg := range algorithms() {
					comes(t, "one of others", set("s", alg, l...), known(), ofParts(2, alg, wants, dutiesOf("s")))
				}
			}
		}
	}
}
