package index_test

import (
	"testing"

	"bailiff/api"
	"bailiff/ask"
	"bailiff/eval"
	"bailiff/policy"
)

// P18.1: many targets, right ones and others.
func TestManyKeys(t *testing.T) {
	found := 0
	for i := range 40000 {
		m := maker{x: uint64(i)}
		l := m.anyTarget()
		if i%2 == 0 {
			l = m.target()
		}
		want, ok := keyByTheWords(l)
		if !ok {
			noKey(t, "mixed", l)
			continue
		}
		found++
		hasKey(t, "mixed", l, want)
	}
	if found < 10000 || found > 30000 {
		t.Error(found)
	}
}

// P18.2: many lists of kids, right ones and others.
func TestManyPicks(t *testing.T) {
	ins, outs := 0, 0
	for i := range 20000 {
		m := maker{x: uint64(i), most: 2}
		kids := some(m.n(maxKids+2), func() api.Policy {
			if i%2 == 0 {
				return m.policy(maxDeep)
			}
			return api.Policy{Target: m.anyTarget()}
		})
		g := m.request()
		in, out := pickByTheWords(kids, g)
		ins, outs = ins+len(in), outs+len(out)
		picks(t, "mixed", kids, g, in...)
	}
	if ins < 50000 || outs < 50000 {
		t.Error(ins, outs)
	}
}

// P18.3, P18.4: many policies, with duties of rules, kids and sets.
func TestManyDecisions(t *testing.T) {
	seen, algs, owed, out, wrong := map[api.Mark]int{}, map[int]int{}, 0, 0, 0
	for i := range 30000 {
		m := maker{x: uint64(i), most: 2 + i%6}
		p := m.right(1 + i%maxDeep)
		if i%2 == 0 && p.Set {
			p.Alg = 1 + i/2%6
		}
		for range 2 {
			g := m.request()
			r := asItStands(t, "mixed", p, g)
			out += leavesOut(t, p, g)
			less := thinned(p, g)
			if s, err := eval.Policy(less, g); !same(s, r) || err != api.OK || policy.Right(less) != api.OK {
				t.Fatalf("%s of %s: %s by those that are picked, error %d, not %s", brief(p), brief(g), told(s), err, told(r))
			}
			comes(t, "by those that are picked", less, g, r)
			seen[r.Mark]++
			algs[p.Alg] += len(p.Kids)
			owed += min(len(r.Obls), 1)
			if ask.Right(g) != api.OK {
				wrong++
			}
		}
	}
	for _, m := range six() {
		if seen[m] < 500 {
			t.Errorf("%v: %d", m, seen[m])
		}
	}
	for _, alg := range algorithms() {
		if algs[alg] < 5000 {
			t.Errorf("%d: %d", alg, algs[alg])
		}
	}
	if owed < 5000 || out < 30000 || wrong < 5000 {
		t.Error(owed, out, wrong)
	}
}
