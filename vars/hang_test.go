package vars_test

import (
	"slices"
	"testing"

	"bailiff/api"
	"bailiff/combine"
	"bailiff/eval"
	"bailiff/mark"
	"bailiff/vars"
)

// P15.3: the answers to its atoms are all that a policy's decision hangs on

// answered are answers to atoms, by their keys. A policy is decided by these alone, without a request.
type answered struct {
	t  *testing.T
	to map[string]int
}

func answersTo(t *testing.T, l []api.Atom, row []int) answered {
	to := map[string]int{}
	for i, a := range l {
		to[key(a)] = row[i]
	}
	return answered{t, to}
}

func (l answered) atom(a api.Atom) int {
	n, ok := l.to[key(a)]
	if !ok {
		l.t.Fatalf("%s isn't listed", told(a))
	}
	return n
}

func (l answered) target(t api.Target) int {
	met := 2
	for _, anyOf := range t {
		one := 0
		for _, allOf := range anyOf {
			all := 2
			for _, m := range allOf {
				all = min(all, l.atom(ofMatch(m)))
			}
			one = max(one, all)
		}
		met = min(met, one)
	}
	return met
}

func (l answered) rule(r api.Rule) api.Result {
	m := api.Permit
	if r.Deny {
		m = api.Deny
	}
	t, c := l.target(r.Target), 2
	if len(r.Cond) > 0 {
		c = l.atom(ofCond(r.Cond))
	}
	switch {
	case t == 0 || t == 2 && c == 0:
		return api.Result{}
	case t == 1 || c == 1:
		return api.Result{Mark: mark.Indet(m)}
	}
	return api.Result{Mark: m, Obls: eval.Duties(r.Obls, m)}
}

func (l answered) policy(p api.Policy) api.Result {
	t := l.target(p.Target)
	var parts []api.Result
	var marks []api.Mark
	for _, r := range p.Rules {
		parts = append(parts, l.rule(r))
	}
	for _, kid := range p.Kids {
		parts = append(parts, l.policy(kid))
	}
	for _, r := range parts {
		marks = append(marks, r.Mark)
	}
	m, _ := combine.All(p.Alg, marks)
	switch {
	case t == 0:
		return api.Result{}
	case t == 1:
		return api.Result{Mark: mark.Indet(m)}
	case m != api.Permit && m != api.Deny:
		return api.Result{Mark: m}
	}
	return api.Result{Mark: m, Obls: append(owed(p.Alg, parts, m), eval.Duties(p.Obls, m)...)}
}

func owed(alg int, parts []api.Result, m api.Mark) []api.Obl {
	var l []api.Obl
	for _, r := range parts {
		if r.Mark == m {
			l = append(l, r.Obls...)
			if alg == api.FirstApplicable {
				break
			}
		}
	}
	return l
}

func alike(a, b api.Result) bool { return a.Mark == b.Mark && slices.Equal(a.Obls, b.Obls) }

// row are the answers to a policy's atoms.
func row(l []api.Atom, g []api.Given) []int {
	var out []int
	for _, a := range l {
		out = append(out, vars.Ask(a, g))
	}
	return out
}

func decided(t *testing.T, p api.Policy, g []api.Given) api.Result {
	t.Helper()
	r, err := eval.Policy(p, g)
	if err != api.OK {
		t.Fatalf("%+v: error %d", p, err)
	}
	return r
}

// small is a policy that doesn't ask too much.
func small(m *maker, depth int) (api.Policy, []api.Atom) {
	for {
		p := m.policy(depth, 3)
		if l, err := vars.Of(p); err == api.OK {
			return p, l
		}
	}
}

func TestDecidedByAnswers(t *testing.T) {
	seen := map[api.Mark]int{}
	for i := range 30000 {
		m := maker{x: uint64(i), room: 3}
		p, l := small(&m, 1+i%maxDeep)
		g := m.request()
		want := decided(t, p, g)
		if got := answersTo(t, l, row(l, g)).policy(p); !alike(got, want) {
			t.Fatalf("%+v of %+v: %+v, not %+v", p, g, got, want)
		}
		seen[want.Mark]++
	}
	for _, m := range []api.Mark{api.NotApplicable, api.Permit, api.Deny, api.IndetP, api.IndetD, api.IndetDP} {
		if seen[m] < 500 {
			t.Errorf("%v: %d", m, seen[m])
		}
	}
}

// other is a request that may be answered like g: its attributes in another order, some values others, some more, some that nobody asks for.
func other(m *maker, g []api.Given) []api.Given {
	g = slices.Clone(g)
	for i := range g {
		k := i + m.n(len(g)-i)
		g[i], g[k] = g[k], g[i]
	}
	for i := range g {
		bag := slices.Clone(g[i].Bag)
		switch m.n(4) {
		case 0:
			slices.Reverse(bag)
		case 1:
			bag = append(bag, m.value())
		case 2:
			bag = slices.Concat(bag, bag)
		}
		for k := range bag {
			if m.n(3) == 0 {
				bag[k] = m.value()
			}
		}
		g[i].Bag = bag
	}
	return append(g, given(api.CSubject, "x", m.value()), given(api.CCase, "y", m.value()))
}

// Two requests that answer alike are decided alike, with the same duties.
func TestRequestsThatAnswerAlike(t *testing.T) {
	pairs, unlike := 0, 0
	for i := range 2000 {
		m := maker{x: uint64(i), room: 4}
		p, l := small(&m, 1+i%maxDeep)
		met := map[string]api.Result{}
		g := m.request()
		for range 20 {
			r := decided(t, p, g)
			of := string(bytesOf(row(l, g)))
			if before, ok := met[of]; ok {
				pairs++
				if !alike(before, r) {
					t.Fatalf("%+v, answered %v: %+v, not %+v", p, []byte(of), r, before)
				}
			} else {
				unlike += len(met)
			}
			met[of] = r
			g = other(&m, g)
		}
	}
	if pairs < 5000 || unlike < 5000 {
		t.Error(pairs, unlike)
	}
}

func bytesOf(row []int) []byte {
	var b []byte
	for _, n := range row {
		b = append(b, byte(n))
	}
	return b
}

// None of a small policy's atoms can be left out: each answer to each decides otherwise than the next one.
func TestEachAtomMatters(t *testing.T) {
	for _, s := range []string{
		"policy p first when (case.x = 1) { permit r; }",
		"policy p first { permit r when (case.x = 1); }",
		"policy p first { permit r if (eq (one case.x) 1); }",
		"set s permitover { policy p first { } policy q first { permit r if (eq (one case.x) 1); } policy u first { } }",
		"set s first when (env.y < 1) { policy p first when (env.y < 1, case.x = 1) { permit r when (env.y < 1); } }",
	} {
		p := read(t, s)
		l := atoms(t, p)
		var marks []api.Mark
		for n, v := range []api.Value{whole(2), text("a"), whole(1)} {
			g := append(x(v), given(api.CEnv, "y", whole(0)))
			if got := row(l, g); got[len(got)-1] != n {
				t.Fatalf("%s of %+v: %v", s, g, got)
			}
			marks = append(marks, decided(t, p, g).Mark)
		}
		if !slices.Equal(marks, []api.Mark{api.NotApplicable, api.IndetP, api.Permit}) {
			t.Errorf("%s: %v", s, marks)
		}
	}
}
