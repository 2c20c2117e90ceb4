package compile_test

import (
	"testing"

	"bailiff/api"
	"bailiff/ask"
	"bailiff/compile"
	"bailiff/vars"
)

// P17.2, P17.3: many policies of few atoms, each by every row of answers.
func TestManyByEveryRow(t *testing.T) {
	seen, branches := map[api.Mark]int{}, map[int]int{}
	for i := range 2000 {
		m := maker{x: uint64(i), matches: i % 4, conds: i / 4 % 3, most: 1 + i%5, args: 1 + i%7}
		if i%30 == 0 {
			m.matches, m.conds, m.most = 4, 2, 4
		}
		d, want := holds(t, "mixed", m.right(1+i%maxDeep))
		branches[min(d.Size(), 9)]++
		for _, r := range want.results {
			seen[r.Mark]++
		}
	}
	for _, m := range []api.Mark{api.NotApplicable, api.Permit, api.Deny, api.IndetP, api.IndetD, api.IndetDP} {
		if seen[m] < 1000 {
			t.Errorf("%v: %d", m, seen[m])
		}
	}
	for n := range 10 {
		if branches[n] < 10 {
			t.Errorf("%d branches: %d policies", n, branches[n])
		}
	}
}

// P17.1, P17.2, P17.4: more atoms: some policies have a diagram, some haven't; each by some rows.
func TestManyOfMoreAtoms(t *testing.T) {
	errs := map[api.Errno]int{}
	for i := range 200 {
		m := maker{x: uint64(i), matches: 7 + i%50, conds: i % 8, most: 3 + i%8, args: 1 + i%20}
		p := m.right(1 + i%3)
		l, listed := vars.Of(p)
		d, err := compile.Of(p)
		errs[err]++
		if (d != nil) != (err == api.OK) || listed != api.OK && err != listed || err != api.OK && err != api.ErrLimit {
			t.Fatalf("%+v: diagram %t, error %d, vars.Of's %d", p, d != nil, err, listed)
		}
		if err == api.OK && d.Size() > maxDag || err != api.OK && listed == api.OK && len(l) <= 6 {
			t.Fatalf("%+v: %d atoms, error %d", p, len(l), err)
		}
		for k := range 10 {
			row := m.row(len(l))
			g := answering(l, row)
			want := decided(t, p, g)
			if k%5 == 0 {
				decides(t, "mixed", p, g, want)
			}
			if d == nil {
				continue
			}
			answers(t, "mixed", d, row, answered{l, row}.policy(p))
			if r, n := d.Decide(g); !same(r, want) || n > len(l) {
				t.Fatalf("%+v of %+v: %s, asked %d of %d, not %s", p, g, told(r), n, len(l), told(want))
			}
		}
	}
	if errs[api.OK] < 60 || errs[api.ErrLimit] < 20 {
		t.Error(errs)
	}
}

// P17.3, P17.4: atoms of the same attributes, and requests that answer them all at once, wrong ones too.
func TestManyByRequests(t *testing.T) {
	seen, wrong, passed := map[api.Mark]int{}, 0, 0
	for i := range 800 {
		m := maker{x: uint64(i), shared: true, matches: 1 + i%9, conds: i % 4, most: 2 + i%3, args: 1 + i%5}
		p := m.right(1 + i%maxDeep)
		l, listed := vars.Of(p)
		d, err := compile.Of(p)
		if err == api.ErrLimit && (listed != api.OK || len(l) > 6) {
			continue
		}
		if err != api.OK {
			t.Fatalf("%+v: %d atoms, error %d", p, len(l), err)
		}
		var want table
		if len(l) <= 6 {
			want = tableOf(p, l)
		}
		for range 6 {
			g := m.request()
			var row []int
			for _, a := range l {
				row = append(row, vars.Ask(a, g))
			}
			r, n := d.Decide(g)
			if whole := decided(t, p, g); !same(r, whole) || n > len(l) {
				t.Fatalf("%+v of %+v: %s, asked %d of %d, not %s", p, g, told(r), n, len(l), told(whole))
			}
			answers(t, "mixed", d, row, r)
			decides(t, "mixed", p, g, r)
			if len(l) <= 6 {
				comes(t, "mixed", d, g, r, asked(want.numbers, row))
			}
			seen[r.Mark]++
			if ask.Right(g) != api.OK {
				wrong++
			}
			if n < len(l) {
				passed++
			}
		}
	}
	for _, m := range []api.Mark{api.NotApplicable, api.Permit, api.Deny, api.IndetP, api.IndetD, api.IndetDP} {
		if seen[m] < 50 {
			t.Errorf("%v: %d", m, seen[m])
		}
	}
	if wrong < 500 || passed < 500 {
		t.Error(wrong, passed)
	}
}
