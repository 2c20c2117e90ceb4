package vars_test

import (
	"slices"
	"strconv"
	"testing"

	"bailiff/api"
	"bailiff/policy"
)

// P15.1 at its bound

func numbered(n int) api.Atom { return ofMatch(asks(api.MEq, whole(n))) }

// first are that many matches, none of them twice.
func first(n int) []api.Atom {
	var l []api.Atom
	for i := range n {
		l = append(l, numbered(i))
	}
	return l
}

// targetOf has these, eight in an AllOf, eight of these in an AnyOf.
func targetOf(l []api.Atom) api.Target {
	var t api.Target
	for anyOf := range slices.Chunk(l, maxMatch*maxMatch) {
		var in [][]api.Match
		for allOf := range slices.Chunk(anyOf, maxMatch) {
			in = append(in, some(len(allOf), func() api.Match {
				defer func() { allOf = allOf[1:] }()
				return allOf[0].Match
			}))
		}
		t = append(t, in)
	}
	return t
}

func simple(t api.Target, rules ...api.Rule) api.Policy {
	return api.Policy{Id: "p", Alg: api.FirstApplicable, Target: t, Rules: rules}
}

// bounded asks what a policy asks that has these atoms, each as often as it may: so many that they may be, or too many.
func bounded(t *testing.T, what string, p api.Policy, l []api.Atom) {
	t.Helper()
	if err := policy.Right(p); err != api.OK {
		t.Fatalf("%s: error %d", what, err)
	}
	if l = once(l); len(l) > maxVars {
		refused(t, what, p, api.ErrLimit)
		return
	}
	lists(t, what, p, l...)
}

func TestHowManyMatches(t *testing.T) {
	for n := range maxMatch*maxMatch*maxMatch + 1 {
		bounded(t, "in a policy's target", simple(targetOf(first(n))), first(n))
		bounded(t, "in a rule's target", simple(nil, api.Rule{Id: "r", Target: targetOf(first(n))}), first(n))
	}
	for _, n := range []int{0, 1, 63, 64, 65, 66, 96, 127, 128, 129, 200, 256} {
		l := first(n)
		if n <= maxKids*maxKids {
			bounded(t, "in kids", asking(l[:min(n, maxAll)]...), l[:min(n, maxAll)])
		}
		for _, at := range []int{0, 1, 30, 32, 63, 64, 65} {
			at = min(at, n)
			p := simple(targetOf(l[:at]), api.Rule{Id: "r"}, api.Rule{Id: "s", Target: targetOf(l[at:])})
			bounded(t, "in both", p, l)
			q := api.Policy{Id: "s", Set: true, Alg: api.OnlyOne, Kids: []api.Policy{simple(targetOf(l[:at])), {Id: "q", Alg: api.DenyOverrides, Target: targetOf(l[at:])}}}
			bounded(t, "in two policies", q, l)
		}
	}
}

// rules are as many as may be in all, in policies of sixteen, with conditions that are numbers.
func rules(n int) (api.Policy, []api.Atom) {
	p := api.Policy{Id: "s", Set: true, Alg: api.DenyOverrides}
	var l []api.Atom
	for i := range n {
		if i%maxKids == 0 {
			p.Kids = append(p.Kids, api.Policy{Id: "k" + strconv.Itoa(i), Alg: api.FirstApplicable})
		}
		kid := &p.Kids[i/maxKids]
		kid.Rules = append(kid.Rules, api.Rule{Id: "r" + strconv.Itoa(i), Cond: lit(whole(i))})
		l = append(l, ofCond(lit(whole(i))))
	}
	return p, l
}

// Conditions alone are never too many: there are no more rules. With one match they may be.
func TestHowManyConditions(t *testing.T) {
	for n := range maxAll + 1 {
		p, l := rules(n)
		bounded(t, "conditions", p, l)
		for _, k := range []int{1, 2, 9} {
			more := first(k)
			p.Target = targetOf(more)
			bounded(t, "behind matches", p, slices.Concat(more, l))
			p.Target = nil
		}
		if n == 0 {
			continue
		}
		// One match ahead of the last condition, or behind it.
		last := p.Kids[len(p.Kids)-1].Rules
		last[len(last)-1].Target = targetOf(first(1))
		bounded(t, "ahead of the last", p, slices.Concat(l[:n-1], first(1), l[n-1:]))
		last[len(last)-1].Target = nil
		p.Kids = append(p.Kids, simple(targetOf(first(1))))
		bounded(t, "behind the last", p, slices.Concat(l, first(1)))
	}
}

// As many as may be, named again and again; then one more of each kind, at each of many places.
func TestAgainAndAgain(t *testing.T) {
	l := first(maxVars)
	full := targetOf(slices.Repeat(l, maxMatch))
	p := api.Policy{Id: "s", Set: true, Alg: api.DenyOverrides, Target: full}
	for i := range 4 {
		kid := api.Policy{Id: "k" + strconv.Itoa(i), Alg: api.FirstApplicable, Target: full}
		for k := range maxKids {
			kid.Rules = append(kid.Rules, api.Rule{Id: "r" + strconv.Itoa(i*maxKids+k), Target: full})
		}
		p.Kids = append(p.Kids, kid)
	}
	lists(t, "again and again", p, l...)
	for i := range 4 {
		for k := range maxKids {
			r := &p.Kids[i].Rules[k]
			r.Cond = lit(boolean(1))
			refused(t, "a condition more", p, api.ErrLimit)
			r.Cond = nil
			r.Target = slices.Clone(full)
			for _, at := range []int{0, 3, 7} {
				r.Target[at] = targetOf(slices.Concat(l[:at*9], []api.Atom{numbered(maxVars)}, l[at*9+1:]))[0]
				refused(t, "a match more", p, api.ErrLimit)
				r.Target[at] = full[at]
			}
		}
	}
	lists(t, "as it was", p, l...)
}

// As deep as may be: with one atom at each depth, and one too many there.
func TestDeep(t *testing.T) {
	writes(t, "set a first when (case.x = 1) { set b first when (case.x = 2) { set c first when (case.x = 3) { policy d first when (case.x = 4) { permit r when (case.x = 5) if true; } } } }",
		"case.x = 1", "case.x = 2", "case.x = 3", "case.x = 4", "case.x = 5", "true")
	for n := maxVars - 1; n <= maxVars+1; n++ {
		for depth := range maxDeep {
			l := first(n)
			var more api.Policy
			for at := maxDeep - 1; at >= 0; at-- {
				p := api.Policy{Id: "p" + strconv.Itoa(at), Alg: api.OnlyOne, Set: true, Target: targetOf(l[at : at+1])}
				if at == maxDeep-1 {
					p.Set, p.Alg = false, api.DenyUnless
				} else {
					p.Kids = []api.Policy{more}
				}
				if at == depth {
					p.Target = append(p.Target, targetOf(l[maxDeep:])...)
				}
				more = p
			}
			want := slices.Concat(l[:depth+1], l[maxDeep:], l[depth+1:maxDeep])
			bounded(t, "deep", more, want)
		}
	}
}

// crowd is a tree of as many policies as may be, each of them with that target.
func crowd(ids *int, depth int, target func() api.Target) api.Policy {
	*ids++
	p := api.Policy{Id: "n" + strconv.Itoa(*ids), Set: depth < maxDeep, Alg: api.DenyUnless, Target: target()}
	if p.Set {
		p.Kids = some(maxKids, func() api.Policy { return crowd(ids, depth+1, target) })
	}
	return p
}

// The greatest policies: one atom more is told wherever it stands, and they are at their end soon.
func TestCrowd(t *testing.T) {
	l := first(maxVars)
	full := targetOf(slices.Repeat(l, maxMatch))
	ids := 0
	p := crowd(&ids, 1, func() api.Target { return full })
	if ids != 1+16+256+4096 {
		t.Fatal(ids)
	}
	lists(t, "few atoms", p, l...)
	last := &p.Kids[15].Kids[15].Kids[15]
	last.Target = targetOf(append(slices.Repeat(l, maxMatch)[1:], numbered(maxVars)))
	refused(t, "one more behind all", p, api.ErrLimit)
	last.Target = full
	p.Target = targetOf(append(slices.Repeat(l, maxMatch)[1:], numbered(maxVars)))
	refused(t, "one more in the root", p, api.ErrLimit)
	lists(t, "but one", api.Policy{Id: "p", Alg: 1, Target: targetOf(l[1:])}, l[1:]...)

	ids = 0
	n := 0
	others := crowd(&ids, 1, func() api.Target {
		n++
		return targetOf(first(n + maxVars + 1)[n:])
	})
	refused(t, "others everywhere", others, api.ErrLimit)
}
