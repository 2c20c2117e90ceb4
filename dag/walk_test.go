package dag_test

import (
	"slices"
	"testing"

	"bailiff/api"
	"bailiff/dag"
)

// P16.3: Walk

// tree asks the Atoms in their order, whatever was answered, and leads to another end by each row of answers: to that of the row's place among rows.
func tree(t *testing.T, d *dag.Dag, atoms ...int) int {
	t.Helper()
	var from func(i, place int) int
	from = func(i, place int) int {
		if i == len(atoms) {
			return end(place)
		}
		b := api.Branch{Atom: atoms[i]}
		for a := range b.To {
			b.To[a] = from(i+1, 3*place+a)
		}
		way, err := d.Make(b)
		if err != api.OK {
			t.Fatalf("%v: error %d", b, err)
		}
		return way
	}
	return from(0, 0)
}

// By every answer to each of six.
func TestWalkByEveryAnswer(t *testing.T) {
	d := begin(t, 364)
	root := tree(t, d, 0, 1, 2, 3, 4, 5)
	if d.Len() != 364 {
		t.Fatal(d.Len())
	}
	sizes(t, "a tree", d, root, 364)
	for place, row := range rows(6) {
		walks(t, "a tree", d, root, row, place)
		walks(t, "a tree, and more answers", d, root, append(row, 2, 0, 3), place)
	}
}

// Atoms that stand apart: only their own answers count.
func TestWalkByItsAtoms(t *testing.T) {
	for _, atoms := range [][]int{{0, 31, 63}, {0, 1, 63}, {61, 62, 63}, {7, 8, 32}} {
		d := begin(t, 13)
		root := tree(t, d, atoms...)
		for _, others := range []int{0, 1, 2, -1, 3} {
			for place, row := range rows(3) {
				answers := slices.Repeat([]int{others}, maxVars)
				for i, a := range row {
					answers[atoms[i]] = a
				}
				walks(t, "answers beside its own", d, root, answers, place)
				walks(t, "just as many as it asks", d, root, answers[:atoms[2]+1], place)
				walks(t, "one too few", d, root, answers[:atoms[2]], place/3*3+1)
				walks(t, "as many as come ahead of the second", d, root, answers[:atoms[1]], place/9*9+4)
				walks(t, "none of its own", d, root, answers[:atoms[0]], 13)
			}
		}
	}
}

// place is where a row stands among the rows.
func place(row []int) int {
	n := 0
	for _, a := range row {
		n = 3*n + a
	}
	return n
}

// 1, where there is no answer, or none that may be.
func TestWalkWithoutAnswers(t *testing.T) {
	d := begin(t, 364)
	root := tree(t, d, 0, 1, 2, 3, 4, 5)
	for n := range 6 {
		for _, row := range rows(n) {
			walks(t, "too few", d, root, row, place(append(row, 1, 1, 1, 1, 1, 1)[:6]))
		}
	}
	walks(t, "nil", d, root, nil, 364)
	walks(t, "empty", d, root, []int{}, 364)
	for i := range 6 {
		for _, odd := range []int{-1, 3, -2, -3, 4, 127, 128, 255, 256, 257, 258, 1 << 16, 1<<16 + 2, 1 << 32, 1<<32 + 2, -1 << 32, -1<<32 + 2, least, least + 2, most, 1 << 62} {
			for _, row := range [][]int{{0, 0, 0, 0, 0, 0}, {1, 1, 1, 1, 1, 1}, {2, 2, 2, 2, 2, 2}, {2, 0, 1, 2, 0, 1}} {
				wrong, plain := slices.Clone(row), slices.Clone(row)
				wrong[i], plain[i] = odd, 1
				walks(t, "no answer", d, root, wrong, place(plain))
			}
		}
	}
	walks(t, "no answers", d, root, []int{-1, 3, least, most, 256, 1 << 32}, 364)
}

func TestWalkFromEnds(t *testing.T) {
	for _, d := range []*dag.Dag{begin(t, 1), holding(t, 1, branch(0, 0))} {
		for _, answers := range [][]int{nil, {0}, {2, 2}} {
			for _, n := range []int{0, 1, 2, 63, 64, 1999, 2000, 1 << 20, 1<<20 - 1, 1<<20 + 1, 1 << 31, 1 << 32, 1<<32 + 1, 1 << 62, most - 1, most} {
				walks(t, "an end", d, end(n), answers, n)
			}
			for _, root := range []int{1, 2, maxDag, 1 << 31, 1 << 32, 1<<32 + 1, 1 << 62, most - 1, most} {
				walks(t, "none", d, root, answers, -1)
			}
		}
	}
	walks(t, "none at first", begin(t, 5), 0, nil, -1)
}

// answered has these answers, each behind its Atom, and else nothing that is one.
func answered(l ...int) []int {
	row := slices.Repeat([]int{7}, 10)
	for i := 0; i < len(l); i += 2 {
		row[l[i]] = l[i+1]
	}
	return row
}

// From each branch on, not only from the one made last.
func TestWalkFromEachBranch(t *testing.T) {
	d := holding(t, 9, asks(9, -1, -2, -3), asks(9, -3, -2, -1), asks(5, 0, -4, 1), asks(5, 1, 0, -5), asks(2, 2, 3, 0), asks(0, 4, 2, 1))
	for _, c := range []struct {
		root    int
		answers []int
		want    int
	}{
		{0, answered(9, 0), 0}, {0, answered(9, 1), 1}, {0, answered(9, 2), 2}, {0, answered(0, 0, 2, 0, 5, 0, 9, 2), 2}, {0, nil, 1},
		{1, answered(9, 0), 2}, {1, answered(9, 1), 1}, {1, answered(9, 2), 0}, {1, nil, 1},
		{2, answered(5, 0, 9, 0), 0}, {2, answered(5, 0, 9, 2), 2}, {2, answered(5, 2, 9, 0), 2}, {2, answered(5, 2, 9, 2), 0}, {2, answered(5, 2), 1}, {2, answered(9, 0), 3}, {2, nil, 3},
		{3, answered(5, 0, 9, 0), 2}, {3, answered(5, 1, 9, 0), 0}, {3, answered(9, 2), 2}, {3, answered(5, 2, 9, 2), 4}, {3, nil, 1},
		{4, answered(2, 0, 5, 0, 9, 2), 2}, {4, answered(2, 0, 5, 1, 9, 2), 3}, {4, answered(2, 1, 5, 0, 9, 2), 0}, {4, answered(5, 2), 4}, {4, answered(2, 2, 5, 2, 9, 0), 0}, {4, nil, 1},
		{5, answered(0, 0, 2, 1, 5, 2), 4}, {5, answered(0, 0, 2, 2, 9, 2), 2}, {5, answered(2, 0, 5, 2, 9, 2), 0}, {5, answered(0, 2, 2, 0, 5, 0, 9, 0), 2}, {5, answered(0, 2), 1}, {5, nil, 3},
	} {
		walks(t, "written out", d, c.root, c.answers, c.want)
	}
}

// Each of the 64 Atoms in one row.
func TestWalkThroughAllAtoms(t *testing.T) {
	d := begin(t, maxVars)
	way := end(64)
	for atom := range maxVars {
		atom = maxVars - 1 - atom
		way = made(t, d, asks(atom, end(atom), end(100+atom), way))
	}
	twos := slices.Repeat([]int{2}, maxVars)
	walks(t, "to the end", d, way, twos, 64)
	walks(t, "more answers than atoms", d, way, append(slices.Clone(twos), 0, 0, 0), 64)
	for atom := range maxVars {
		for a, want := range []int{atom, 100 + atom, 64} {
			row := slices.Clone(twos)
			row[atom] = a
			walks(t, "another answer", d, way, row, want)
		}
		walks(t, "no more answers", d, way, twos[:atom], 100+atom)
	}
}

// What is made later on leads elsewhere, and changes no walk of what there was.
func TestWalkWhileMoreIsMade(t *testing.T) {
	d := begin(t, maxDag)
	root := tree(t, d, 60, 61, 62)
	for i := range 500 {
		made(t, d, asks(i%60, root, end(i), end(i+1)))
		for n, row := range rows(3) {
			walks(t, "as before", d, root, slices.Concat(make([]int, 60), row), n)
		}
		sizes(t, "as before", d, root, 13)
	}
}
