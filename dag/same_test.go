package dag_test

import (
	"fmt"
	"testing"

	"bailiff/api"
	"bailiff/dag"
)

// P16.5: two ways lead to the same ends, whatever the answers, just if they are the same

// ends are those to which a way leads by each row of answers to the Atoms.
func ends(d *dag.Dag, way int, atoms ...int) string {
	var l []int
	answers := make([]int, maxVars)
	for _, row := range rows(len(atoms)) {
		for i, a := range row {
			answers[atoms[i]] = a
		}
		l = append(l, d.Walk(way, answers))
	}
	return fmt.Sprint(l)
}

// apart wants no two of a diagram's branches, nor one and an end, to lead to the same ends.
func apart(t *testing.T, d *dag.Dag, atoms ...int) {
	t.Helper()
	ways := map[string]int{}
	for n := range 20 {
		ways[ends(d, end(n), atoms...)] = end(n)
	}
	for i := range d.Len() {
		key := ends(d, i, atoms...)
		if way, there := ways[key]; there {
			t.Fatalf("%v: %d and %d lead to %s", all(t, d), i, way, key)
		}
		ways[key] = i
	}
}

// by is the way that asks all of the Atoms, in their order, and leads to the ends of a row, the last Atom's three side by side.
func by(t *testing.T, d *dag.Dag, ends []int, atoms ...int) int {
	t.Helper()
	if len(atoms) == 0 {
		return end(ends[0])
	}
	b, n := api.Branch{Atom: atoms[0]}, len(ends)/3
	for a := range b.To {
		b.To[a] = by(t, d, ends[a*n:(a+1)*n], atoms[1:]...)
	}
	return made(t, d, b)
}

// All 512 ways of two Atoms with two ends, by 510 branches.
func TestAllWaysOfTwoAtoms(t *testing.T) {
	d := begin(t, 510)
	was := map[int]int{}
	for range 2 {
		for f := range 512 {
			var l []int
			for i := range 9 {
				l = append(l, f>>i&1)
			}
			way := by(t, d, l, 17, 40)
			if f0, there := was[way]; there && f0 != f {
				t.Fatalf("one way for %d and %d", f0, f)
			}
			was[way] = f
			if got, want := ends(d, way, 17, 40), fmt.Sprint(l); got != want {
				t.Fatalf("%s, not %s", got, want)
			}
		}
		if len(was) != 512 || d.Len() != 510 {
			t.Fatal(len(was), d.Len())
		}
	}
	apart(t, d, 17, 40)
}

// All ways of one Atom with twelve ends, and what is asked ahead of them without being of any weight.
func TestAllWaysOfOneAtom(t *testing.T) {
	d := begin(t, maxDag)
	for n := range 12 * 12 * 12 {
		l := []int{n / 144, n / 12 % 12, n % 12}
		way := by(t, d, l, 5)
		if (way < 0) != (l[0] == l[1] && l[1] == l[2]) {
			t.Fatal(l, way)
		}
		nine := append(append(append([]int{}, l...), l...), l...)
		if again := by(t, d, nine, 0, 5); again != way {
			t.Fatalf("%v: %d, not %d", l, again, way)
		}
	}
	if d.Len() != 12*12*12-12 {
		t.Fatal(d.Len())
	}
	apart(t, d, 5)
}

// However a way is made, with Atoms of no weight asked or left out, it is the same.
func TestOneWayHoweverItIsMade(t *testing.T) {
	atoms := []int{3, 20, 41, 63}
	for seed := range 300 {
		m := maker{x: uint64(seed)}
		var l []int
		for _, row := range rows(4) {
			// The answers to some of the Atoms don't matter, in the whole or by the answer 1 to the one ahead.
			if seed&1 > 0 {
				row[1] = 0
			}
			if seed&2 > 0 && row[1] == 1 {
				row[2] = 0
			}
			if seed&4 > 0 {
				row[3] = 0
			}
			l = append(l, (&maker{x: uint64(seed*1000 + place(row))}).n(2+seed%3))
		}
		d := begin(t, maxDag)
		// Others that stand there already make no difference.
		for range m.n(50) {
			made(t, d, branch(pick(&m, atoms), m.n(3)))
		}
		way := by(t, d, l, atoms...)
		n := d.Len()
		if got, want := ends(d, way, atoms...), fmt.Sprint(l); got != want {
			t.Fatalf("%s, not %s", got, want)
		}
		if again := by(t, d, l, atoms...); again != way || d.Len() != n {
			t.Fatalf("%d, not %d", again, way)
		}
		needed(t, d, way, l, atoms...)
		apart(t, d, atoms...)
	}
}

// needed wants as few branches as the ends need: for each Atom the parts of the row that are unlike and hang on it.
func needed(t *testing.T, d *dag.Dag, way int, l []int, atoms ...int) {
	t.Helper()
	want := 0
	for n := len(l); n > 1; n /= 3 {
		met := map[string]bool{}
		for i := 0; i < len(l); i += n {
			no, unsure, yes := fmt.Sprint(l[i:i+n/3]), fmt.Sprint(l[i+n/3:i+2*n/3]), fmt.Sprint(l[i+2*n/3:i+n])
			if no != unsure || unsure != yes {
				met[fmt.Sprint(l[i:i+n])] = true
			}
		}
		want += len(met)
	}
	sizes(t, "as few as may be", d, way, want)
}

// Of branches made at random, without a thought of what they lead to.
func TestApartMixed(t *testing.T) {
	asked := 0
	for seed := range 400 {
		m, p := maker{x: uint64(seed)}, newPlain(maxDag)
		d := begin(t, maxDag)
		for range 20 + m.n(150) {
			b := m.branch(p, 5, 1+m.n(4))
			way, err := p.make(b)
			if err != api.OK {
				continue
			}
			makes(t, "mixed", d, b, way)
		}
		apart(t, d, 0, 1, 2, 3, 4)
		asked += d.Len()
	}
	if asked < 10000 {
		t.Error(asked)
	}
}
