package compile_test

import (
	"slices"
	"strconv"
	"testing"

	"bailiff/api"
	"bailiff/policy"
)

// P17.1: policies of six atoms or fewer have a diagram, however many their parts are

// telling is a kid that denies in each case with other duties: each of an atom's three answers is told by them.
func telling(i int, id string) api.Policy {
	return simple(id, api.FirstApplicable,
		api.Rule{Id: id + "y", Deny: true, Target: allOf(i), Obls: []api.Obl{duty(2, "y"+id)}},
		api.Rule{Id: id + "n", Deny: true, Obls: []api.Obl{duty(2, "n"+id)}})
}

// tellingAll tells each of the rows of answers to these atoms from all others.
func tellingAll(id string, l ...int) api.Policy {
	p := set(id, api.DenyUnless)
	for _, i := range l {
		p.Kids = append(p.Kids, telling(i, id+"k"+strconv.Itoa(i)))
	}
	return p
}

// All rows apart: so many branches may six atoms have, and no more.
func TestMostBranchesOfSix(t *testing.T) {
	most := 0
	for n := range 7 {
		d, want := holds(t, "all apart", tellingAll("s", []int{0, 1, 2, 3, 4, 5}[:n]...))
		sizes(t, "all apart", d, most)
		if slices.Max(want.numbers) != len(want.numbers)-1 {
			t.Fatal(want.numbers)
		}
		most = 3*most + 1
	}
	if most != 3*mostOfSix+1 {
		t.Fatal(most)
	}
}

// Sets each of which tells all rows apart, in orders of their own, so that each of their parts has many branches that no other one has.
func TestManyPartsThatTellAllApart(t *testing.T) {
	orders := [][]int{{0, 1, 2, 3, 4, 5}, {5, 4, 3, 2, 1, 0}, {2, 4, 0, 5, 1, 3}, {3, 0, 4, 1, 5, 2}, {1, 5, 3, 0, 2, 4}}
	for _, alg := range algorithms() {
		s := set("s", alg)
		for i, order := range orders {
			s.Kids = append(s.Kids, tellingAll("u"+strconv.Itoa(i), order...))
		}
		if n := policy.Rules(s); n != 60 {
			t.Fatal(n)
		}
		d, _ := holds(t, "all apart, again and again", s)
		switch alg {
		case api.OnlyOne, api.PermitOverrides, api.PermitUnless:
		default:
			sizes(t, "all apart, again and again", d, mostOfSix)
		}
		// Of their own duties, whoever else is asked: the first kid's two atoms come ahead.
		s.Target = allOf(3, 1)
		s.Obls = own("s")
		holds(t, "for some", s)
	}
}

// full is a target with as many matches as may be, of these atoms in a mixed row.
func full(m *maker) api.Target {
	return some(maxMatch, func() [][]api.Match {
		return some(maxMatch, func() []api.Match { return some(maxMatch, m.match) })
	})
}

// wide is a target of few matches in many lists, by which many rows are told apart.
func wide(m *maker) api.Target {
	return some(1+m.n(3), func() [][]api.Match {
		return some(2+m.n(maxMatch-1), func() []api.Match { return some(1+m.n(3), m.match) })
	})
}

// crowded is a set of as many rules as may be, sixteen in each of four policies.
func crowded(m *maker, alg int, target func(m *maker) api.Target) api.Policy {
	s := set(m.id(), alg)
	for range maxAll / maxKids {
		p := simple(m.id(), pick(m, []int{api.DenyOverrides, api.PermitOverrides, api.FirstApplicable, api.DenyUnless, api.PermitUnless}))
		p.Rules = some(maxKids, func() api.Rule {
			r := api.Rule{Id: m.id(), Deny: m.n(2) == 0, Target: target(m), Obls: some(maxObls, m.duty)}
			if m.conds > 0 && m.n(3) == 0 {
				r.Cond = cond(m.matches + m.n(m.conds))
			}
			return r
		})
		p.Obls = some(maxObls, m.duty)
		s.Kids = append(s.Kids, p)
	}
	return s
}

// The most rules, with each algorithm, with duties of many names and of few.
func TestMostRules(t *testing.T) {
	for i, alg := range algorithms() {
		m := maker{x: uint64(i), matches: 6 - i%2, conds: i % 2, args: []int{2, 500}[i/2%2]}
		holds(t, "most rules", crowded(&m, alg, wide))
	}
	m := maker{matches: 6, args: 9}
	holds(t, "most matches", crowded(&m, api.DenyOverrides, full))
}

// tree is of as many policies as may be: sixteen in each set, four deep.
func tree(m *maker, depth int, target func() api.Target, alg func() int) api.Policy {
	p := simple(m.id(), alg())
	p.Target, p.Obls = target(), some(maxObls, m.duty)
	if depth == maxDeep {
		if p.Alg < api.DenyUnless {
			p.Alg = api.DenyUnless
		}
		return p
	}
	p.Set = true
	p.Kids = some(maxKids, func() api.Policy { return tree(m, depth+1, target, alg) })
	return p
}

// The greatest sets, of policies without rules and for few.
func TestMostPolicies(t *testing.T) {
	for i, alg := range []int{api.DenyOverrides, api.PermitOverrides, api.FirstApplicable, api.OnlyOne, api.DenyUnless, api.PermitUnless, 0} {
		m := maker{x: uint64(i), matches: 6, args: 5000}
		p := tree(&m, 1, func() api.Target { return []api.Target{nil, allOf(m.n(6)), allOf(m.n(6), m.n(6))}[m.n(3)] }, func() int {
			if alg == 0 {
				return 1 + m.n(6)
			}
			return alg
		})
		if m.ids != 1+16+256+4096 {
			t.Fatal(m.ids)
		}
		d, l := diagram(t, "a tree", p), atoms(t, p)
		if len(l) != 6 || d.Size() > mostOfSix {
			t.Fatal(len(l), d.Size())
		}
		for k, row := range rows(6) {
			if k%60 != 0 {
				continue
			}
			g := answering(l, row)
			want := decided(t, p, g)
			answers(t, "a tree", d, row, want)
			if r, n := d.Decide(g); !same(r, want) || n > 6 {
				t.Fatalf("by %v: %s, asked %d, not %s", row, told(r), n, told(want))
			}
		}
		decides(t, "a tree", p, nil, decided(t, p, nil))
	}
	// All of them, in the order in which they stand, with more duties than one byte can tell apart.
	m := maker{args: 1}
	p := tree(&m, 1, func() api.Target { return nil }, func() int { return api.DenyUnless })
	n := 0
	var owe func(p *api.Policy)
	owe = func(p *api.Policy) {
		for i := range p.Kids {
			owe(&p.Kids[i])
		}
		for i := range p.Obls {
			p.Obls[i] = duty(2, "n"+strconv.Itoa(n))
			n++
		}
	}
	owe(&p)
	r := diagram(t, "all duties", p).Answer(nil)
	if r.Mark != api.Deny || len(r.Obls) != n || n != 8*4369 {
		t.Fatal(r.Mark, len(r.Obls), n)
	}
	for i, o := range r.Obls {
		if o != duty(2, "n"+strconv.Itoa(i)) {
			t.Fatal(i, o)
		}
	}
}

// One set in another, as deep as may be, with an atom at each depth and a duty.
func TestDeep(t *testing.T) {
	for _, top := range algorithms() {
		for _, low := range algorithms() {
			p := simple("d", api.FirstApplicable, owing("r", low%2 == 0, allOf(4), cond(5)))
			for depth := maxDeep - 1; depth > 0; depth-- {
				p.Target, p.Obls = allOf(depth), own(p.Id)
				alg := low
				if depth == 1 {
					alg = top
				}
				p = set(string(rune('a'+depth-1)), alg, p, simple("e"+strconv.Itoa(depth), []int{api.DenyUnless, api.FirstApplicable, api.PermitUnless}[depth%3]))
			}
			p.Target = allOf(0)
			holds(t, "deep", p)
		}
	}
}
