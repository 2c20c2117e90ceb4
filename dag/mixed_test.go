package dag_test

import (
	"testing"

	"bailiff/api"
	"bailiff/dag"
)

// Mixed diagrams against a plain reckoning by the words

// alike wants a diagram to tell what the plain one tells.
func alike(t *testing.T, m *maker, d *dag.Dag, p *plain, atoms int) {
	t.Helper()
	n := len(p.of)
	if d.Len() != n {
		t.Fatalf("%d branches, not %d", d.Len(), n)
	}
	for i := range n {
		if b, ok := d.Branch(i); b != p.of[i] || !ok {
			t.Fatalf("branch %d: %v, not %v", i, b, p.of[i])
		}
		makes(t, "again", d, p.of[i], i)
	}
	for range 20 {
		root, answers := pick(m, []int{m.n(n + 1), n - 1, n, -1 - m.n(5)}), m.answers(atoms)
		walks(t, "mixed", d, root, answers, p.walk(root, answers))
		sizes(t, "mixed", d, root, p.size(root))
	}
}

func TestMixed(t *testing.T) {
	errs := map[api.Errno]int{}
	var one, again, more, deepest int
	for seed := range 600 {
		m := maker{x: uint64(seed)}
		room := pick(&m, []int{1, 2, 3, 10, 40, 100, 300, maxDag})
		atoms, ends := pick(&m, []int{1, 2, 3, 6, 20, maxVars}), 1+m.n(4)
		d, p := begin(t, room), newPlain(room)
		for range 20 + m.n(400) {
			b := m.branch(p, atoms, ends)
			if m.n(6) == 0 {
				b = m.odd(p, b)
			}
			n := len(p.of)
			want, wanted := p.make(b)
			way, err := d.Make(b)
			if way != want || err != wanted {
				t.Fatalf("%v among %v: %d, error %d, not %d, error %d", b, p.of, way, err, want, wanted)
			}
			errs[err]++
			switch {
			case err != api.OK:
			case len(p.of) > n:
				more++
			case b.To[0] == b.To[1] && b.To[1] == b.To[2]:
				one++
			default:
				again++
			}
		}
		alike(t, &m, d, p, atoms)
		for i := range d.Len() {
			deepest = max(deepest, d.Size(i))
		}
	}
	if min(errs[api.ErrArg], errs[api.ErrLimit], one, again, more) < 3000 || deepest < 30 {
		t.Error(errs, one, again, more, deepest)
	}
}

// Two diagrams side by side, in turns: neither says anything of the other one.
func TestSideBySide(t *testing.T) {
	for seed := range 200 {
		m := maker{x: uint64(seed)}
		d, p := [2]*dag.Dag{}, [2]*plain{}
		for i := range d {
			room := 1 + m.n(60)
			d[i], p[i] = begin(t, room), newPlain(room)
		}
		for range 200 {
			// The branch is made with one of them in mind, and asked of any.
			b := m.branch(p[m.n(2)], 6, 3)
			i := m.n(2)
			want, wanted := p[i].make(b)
			if way, err := d[i].Make(b); way != want || err != wanted {
				t.Fatalf("%v: %d, error %d, not %d, error %d", b, way, err, want, wanted)
			}
			if m.n(10) == 0 {
				alike(t, &m, d[0], p[0], 6)
				alike(t, &m, d[1], p[1], 6)
			}
		}
	}
}
