package compile_test

import (
	"slices"
	"strconv"
	"testing"

	"bailiff/api"
)

// P17.2, P17.3: whatever the parts of a policy come to, by every row of answers

// owing is a rule with a duty of its own on either decision.
func owing(id string, deny bool, t api.Target, c []api.Node) api.Rule {
	return api.Rule{Id: id, Deny: deny, Target: t, Cond: c, Obls: []api.Obl{duty(1, "p"+id), duty(2, "d"+id), duty(1, "q"+id)}}
}

func own(id string) []api.Obl {
	return []api.Obl{duty(2, "d"+id), duty(1, "p"+id), duty(2, "e"+id)}
}

// Rules of each effect, in each row of effects.
func TestAlgorithmsOfRules(t *testing.T) {
	for _, alg := range algorithms() {
		if alg == api.OnlyOne {
			continue
		}
		for n := range 5 {
			for effects := range 1 << n {
				p := simple("p", alg)
				for i := range n {
					r := api.Rule{Id: "r" + strconv.Itoa(i), Deny: effects>>i&1 == 1, Target: allOf(i)}
					if i%2 == 1 {
						r.Target, r.Cond = nil, cond(i)
					}
					p.Rules = append(p.Rules, r)
				}
				holds(t, "rules", p)
				for i, r := range p.Rules {
					p.Rules[i] = owing(r.Id, r.Deny, r.Target, r.Cond)
				}
				holds(t, "rules with duties", p)
				p.Obls = own("p")
				p.Target = allOf(5)
				holds(t, "rules with duties, for some", p)
			}
		}
	}
}

// kidsTo are kids by whose answers one may come to each of the six decisions, with duties and without.
func kidsTo(i int) []api.Policy {
	a, b := allOf(2*i), allOf(2*i+1)
	id := "k" + strconv.Itoa(i)
	permit, deny := owing(id+"p", false, a, nil), owing(id+"d", true, b, nil)
	l := []api.Policy{
		simple(id, api.DenyOverrides, permit, deny),
		simple(id, api.PermitOverrides, permit, deny),
		simple(id, api.FirstApplicable, deny, permit),
		simple(id, api.DenyUnless, permit, deny),
		simple(id, api.PermitUnless, permit, deny),
		simple(id, api.PermitUnless),
		set(id, api.OnlyOne, simple(id+"x", api.FirstApplicable, permit), simple(id+"y", api.FirstApplicable, deny)),
	}
	for k := range l {
		l[k].Obls = own(id)
	}
	l = append(l, l[0], l[3], l[6])
	for k := 7; k < len(l); k++ {
		l[k].Target, l[k].Obls = allOf(2*i+1), nil
	}
	return l
}

// Two kids, of each kind; a third one comes to one decision always.
func TestAlgorithmsOfKids(t *testing.T) {
	for _, alg := range algorithms() {
		for i, a := range kidsTo(0) {
			holds(t, "a kid", set("s", alg, a))
			for k, b := range kidsTo(1) {
				p := set("s", alg, a, b)
				if (i+k)%2 == 0 {
					p.Obls = own("s")
				}
				holds(t, "two kids", p)
				c := simple("c", []int{api.FirstApplicable, api.DenyUnless, api.PermitUnless}[(i+k)%3], owing("cr", i%2 == 0, allOf(0), nil))
				c.Obls = own("c")
				p.Kids = slices.Insert(p.Kids, (i+k)%3, c)
				holds(t, "three kids", p)
			}
		}
	}
}

// Targets of matches in one list and in many, of a policy and of a rule, beside a condition and without one.
func TestTargets(t *testing.T) {
	a, b, c, d := asks(0), asks(1), asks(2), asks(3)
	for i, target := range []api.Target{
		nil, {},
		{{{a}}},
		{{{a, b, c, d}}},
		{{{a}, {b}, {c}, {d}}},
		{{{a}}, {{b}}, {{c}}, {{d}}},
		{{{a, b}, {c, d}}},
		{{{c, d}, {a, b}}},
		{{{a, b}}, {{c, d}}},
		{{{a}, {b}}, {{c}, {d}}},
		{{{a}, {b}}, {{a}, {c}}, {{b}, {c}}},
		{{{a, b}, {a, c}, {b, c}}},
		{{{a, b}, {c}}, {{b, d}, {a, c, d}}},
		{{{d, c, b, a}, {a, d}}, {{a}}},
		{{{a, a, a}, {a}}, {{a}, {a, a}}},
		{{{a}, {a, b}}, {{c}, {c, d}, {d, c}}},
	} {
		for _, deny := range []bool{false, true} {
			for k, r := range []api.Rule{owing("r", deny, target, nil), owing("r", deny, target, cond(4)), owing("r", deny, nil, cond(4)), owing("r", deny, nil, nil)} {
				p := simple("p", algorithms()[(i+k)%3], r)
				holds(t, "of a rule", p)
				p.Rules = append(p.Rules, api.Rule{Id: "q", Deny: !deny})
				holds(t, "of a rule ahead of one for all", p)
				p.Rules = p.Rules[:1]
				p.Target = target
				holds(t, "of both", p)
				p.Rules[0].Target = allOf(1)
				holds(t, "of the policy", p)
			}
		}
	}
}

// Whose duties stand beside the decision, and in which order: written out.
func TestDuties(t *testing.T) {
	for _, c := range []struct {
		what, s string
		row     []int
		want    string
	}{
		{"of each that came to it", "policy p permitover { permit a on permit log a; deny b on deny log b; permit c when (case.x = 1) on permit log c; permit d if false on permit log d; } on deny log x on permit log y", []int{2, 0}, "Permit 1/1 a 1/1 c 1/1 y"},
		{"not of one that isn't sure", "policy p permitover { permit a on permit log a; deny b on deny log b; permit c when (case.x = 1) on permit log c; } on permit log y", []int{1}, "Permit 1/1 a 1/1 y"},
		{"of the first alone", "policy p first { deny a when (case.x = 1) on deny log a; deny b on deny log b; } on deny log x", []int{2}, "Deny 2/1 a 2/1 x"},
		{"of the first that applies", "policy p first { deny a when (case.x = 1) on deny log a; deny b on deny log b; } on deny log x", []int{0}, "Deny 2/1 b 2/1 x"},
		{"of the first without any", "policy p first { permit a; permit b on permit log b; } on permit log x", nil, "Permit 1/1 x"},
		{"of the only one", "set s only { policy a first when (case.x = 1) { deny b on deny log b; } on deny log a policy c first when (case.y = 1) { deny d on deny log d; } } on deny log s", []int{0, 2}, "Deny 2/1 d 2/1 s"},
		{"of two where one is asked: none", "set s only { policy a first when (case.x = 1) { deny b on deny log b; } on deny log a policy c first when (case.y = 1) { deny d on deny log d; } } on deny log s", []int{2, 2}, "Indeterminate{DP}"},
		{"of those that deny, though none decided", "policy p denyunless { deny a on deny log a; permit b when (case.x = 1) on permit log b; deny c on deny log c; } on deny log x", []int{1}, "Deny 2/1 a 2/1 c 2/1 x"},
		{"of the policy alone", "policy p permitunless { deny a when (case.x = 1) on deny log a; } on permit log x on permit notify y", []int{1}, "Permit 1/1 x 1/4 y"},
		{"none beside what isn't sure", "policy p denyover when (case.x = 1) { permit a on permit log a; } on permit log x", []int{1}, "Indeterminate{P}"},
		{"twice the same", "policy p denyover { permit a on permit log x on permit log x; permit b on permit log x; } on permit log x", nil, "Permit 1/1 x 1/1 x 1/1 x 1/1 x"},
		{"of each kind", "policy p denyover { permit a on permit log x on permit redact x on permit review x on permit notify x; }", nil, "Permit 1/1 x 1/2 x 1/3 x 1/4 x"},
	} {
		d := diagram(t, c.what, read(t, c.s))
		if r := d.Answer(c.row); told(r) != c.want {
			t.Errorf("%s: %s by %v: %s, not %s", c.what, c.s, c.row, told(r), c.want)
		}
	}
}

// Duties tell results apart, and nothing else does: two rules that owe the same make one end.
func TestWhatTellsResultsApart(t *testing.T) {
	first := duty(1, "a")
	two := func(a, b []api.Obl) api.Policy {
		return simple("p", api.FirstApplicable, api.Rule{Id: "r", Target: allOf(0), Obls: a}, api.Rule{Id: "q", Obls: b})
	}
	for what, l := range map[string][]api.Obl{
		"none":            nil,
		"another name":    {duty(1, "b")},
		"a longer name":   {duty(1, "aa")},
		"another kind":    {{On: 1, Kind: api.ORedact, Arg: "a"}},
		"twice":           {first, first},
		"one more":        {first, duty(1, "b")},
		"one more ahead":  {duty(1, "b"), first},
		"another one too": {duty(2, "a")},
	} {
		d, _ := holds(t, what, two([]api.Obl{first}, l))
		sizes(t, what, d, 1)
		if d.Answer([]int{1}).Mark != api.IndetP {
			t.Error(what)
		}
	}
	// In the one order and in the other; the same, with duties that are on the other decision.
	d, _ := holds(t, "order", simple("p", api.DenyUnless, api.Rule{Id: "r", Target: allOf(0)}, api.Rule{Id: "q", Deny: true, Obls: []api.Obl{duty(2, "a"), duty(1, "a")}}))
	sizes(t, "order", d, 1)
	for _, alg := range []int{api.DenyUnless, api.PermitUnless} {
		deny := alg == api.DenyUnless
		on := 1
		if deny {
			on = 2
		}
		r := api.Rule{Id: "r", Deny: deny, Target: allOf(0), Obls: []api.Obl{duty(3-on, "a")}}
		d, _ = holds(t, "on the other one", simple("p", alg, r))
		sizes(t, "on the other one", d, 0)
		r.Obls = append(r.Obls, duty(on, "a"))
		d, _ = holds(t, "on this one", simple("p", alg, r))
		sizes(t, "on this one", d, 1)
		s := set("s", alg, simple("a", api.FirstApplicable, r), simple("b", api.DenyOverrides, api.Rule{Id: "q", Deny: deny, Target: allOf(1), Obls: r.Obls}))
		d, want := holds(t, "one or the other", s)
		if numbers := slices.Compact(slices.Sorted(slices.Values(want.numbers))); len(numbers) != 3 {
			t.Error(numbers)
		}
		// Two branches lead to one or two duties, whichever owes them.
		sizes(t, "one or the other", d, 3)
	}
}

// Where there is no answer, or none of 0 to 2, it is 1; more answers than atoms say nothing.
func TestRowsThatAreNot(t *testing.T) {
	p := set("s", api.FirstApplicable,
		simple("p", api.DenyOverrides, owing("a", false, allOf(0), nil), owing("b", true, allOf(1), cond(2))),
		simple("q", api.DenyUnless, owing("c", true, allOf(3), nil)))
	d := diagram(t, "odd rows", p)
	l := atoms(t, p)
	if len(l) != 4 {
		t.Fatal(len(l))
	}
	for _, row := range rows(4) {
		want := answered{l, row}.policy(p)
		answers(t, "as it is", d, row, want)
		for _, more := range [][]int{{0}, {1}, {2}, {9, 9, 9}, make([]int, 200)} {
			answers(t, "longer", d, slices.Concat(row, more), want)
		}
		for n := range 4 {
			short := slices.Concat(row[:n], []int{1, 1, 1, 1})[:4]
			answers(t, "shorter", d, row[:n:n], answered{l, short}.policy(p))
			answers(t, "shorter, with room", d, row[:n], answered{l, short}.policy(p))
			for _, odd := range []int{-1, -2, 3, 4, 5, 1 << 32, 1<<32 + 2, -1 << 63, 1<<63 - 1, 256, 258, -254} {
				with := slices.Clone(row)
				with[n] = 1
				want := answered{l, with}.policy(p)
				with[n] = odd
				answers(t, "odd", d, with, want)
			}
		}
	}
	answers(t, "none", d, nil, answered{l, []int{1, 1, 1, 1}}.policy(p))
	answers(t, "none", d, []int{}, answered{l, []int{1, 1, 1, 1}}.policy(p))
}
