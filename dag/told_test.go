package dag_test

import (
	"slices"
	"testing"

	"bailiff/api"
	"bailiff/dag"
)

// The limits as the document's page and the chapter have them.
const (
	maxVars  = 64
	maxDag   = 2000
	furthest = -1 << 20
	least    = -1 << 63
	most     = 1<<63 - 1
)

func asks(atom, no, unsure, yes int) api.Branch {
	return api.Branch{Atom: atom, To: [3]int{no, unsure, yes}}
}

// end is the way to the end of that number.
func end(n int) int { return -1 - n }

// branch is the one of that number among many that are unlike, of one Atom, that lead to ends.
func branch(atom, n int) api.Branch { return asks(atom, end(n), end(n+1), end(n)) }

func begin(t *testing.T, most int) *dag.Dag {
	t.Helper()
	d, err := dag.New(most)
	if d == nil || err != api.OK {
		t.Fatalf("New(%d): %v, error %d", most, d, err)
	}
	return d
}

// holding is a Dag of these branches, each of which is one more.
func holding(t *testing.T, most int, l ...api.Branch) *dag.Dag {
	t.Helper()
	d := begin(t, most)
	for i, b := range l {
		makes(t, "to begin with", d, b, i)
	}
	holds(t, "to begin with", d, l...)
	return d
}

// makes wants a way without an error.
func makes(t *testing.T, what string, d *dag.Dag, b api.Branch, want int) {
	t.Helper()
	if way, err := d.Make(b); way != want || err != api.OK {
		t.Fatalf("%s: %v among %d: %d, error %d, not %d", what, b, d.Len(), way, err, want)
	}
}

// refused wants an error, no way beside it, and the diagram as it was.
func refused(t *testing.T, what string, d *dag.Dag, b api.Branch, want api.Errno) {
	t.Helper()
	before := all(t, d)
	if way, err := d.Make(b); way != 0 || err != want {
		t.Fatalf("%s: %v among %d: %d, error %d, not %d", what, b, d.Len(), way, err, want)
	}
	holds(t, what, d, before...)
}

// all are a diagram's branches.
func all(t *testing.T, d *dag.Dag) []api.Branch {
	t.Helper()
	var l []api.Branch
	for i := range d.Len() {
		b, ok := d.Branch(i)
		if !ok {
			t.Fatalf("no branch %d of %d", i, d.Len())
		}
		l = append(l, b)
	}
	return l
}

func holds(t *testing.T, what string, d *dag.Dag, want ...api.Branch) {
	t.Helper()
	if l := all(t, d); !slices.Equal(l, want) {
		t.Fatalf("%s: %v, not %v", what, l, want)
	}
}

func none(t *testing.T, what string, d *dag.Dag, i int) {
	t.Helper()
	if b, ok := d.Branch(i); b != (api.Branch{}) || ok {
		t.Fatalf("%s: branch %d of %d: %v, %t", what, i, d.Len(), b, ok)
	}
}

func walks(t *testing.T, what string, d *dag.Dag, root int, answers []int, want int) {
	t.Helper()
	if got := d.Walk(root, answers); got != want {
		t.Fatalf("%s: from %d by %v: %d, not %d", what, root, answers, got, want)
	}
}

func sizes(t *testing.T, what string, d *dag.Dag, root, want int) {
	t.Helper()
	if got := d.Size(root); got != want {
		t.Fatalf("%s: from %d: %d, not %d", what, root, got, want)
	}
}

// rows are all rows of so many answers.
func rows(n int) [][]int {
	l := [][]int{nil}
	for range n {
		var longer [][]int
		for _, row := range l {
			for a := range 3 {
				longer = append(longer, append(slices.Clone(row), a))
			}
		}
		l = longer
	}
	return l
}

// told is what walks and sizes tell of a diagram whose branches ask these Atoms alone.
func told(d *dag.Dag, atoms ...int) []int {
	var l []int
	for root := range d.Len() + 2 {
		l = append(l, d.Size(root))
		for _, row := range rows(len(atoms)) {
			answers := make([]int, maxVars)
			for i, a := range row {
				answers[atoms[i]] = a
			}
			l = append(l, d.Walk(root, answers))
		}
	}
	return l
}

// made is the way of a branch that may be.
func made(t *testing.T, d *dag.Dag, b api.Branch) int {
	t.Helper()
	way, err := d.Make(b)
	if err != api.OK {
		t.Fatalf("%v among %d: error %d", b, d.Len(), err)
	}
	return way
}
