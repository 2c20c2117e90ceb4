package dag_test

import (
	"slices"
	"testing"

	"bailiff/api"
	"bailiff/dag"
)

// What holds everywhere

// R2, R5: the answers are as they were, those that are none too, and the room behind them is neither read nor written.
func TestAnswersHandedInStay(t *testing.T) {
	d := begin(t, 13)
	root := tree(t, d, 0, 1, 2)
	odd := []int{0, 1, 2, -1, 3, 77, least, most}
	for _, behind := range odd {
		for n := range 4 {
			for i := range len(odd) * len(odd) * len(odd) {
				row := []int{odd[i%8], odd[i/8%8], odd[i/64]}[:n]
				want := []int{1, 1, 1}
				for k, a := range row {
					if 0 <= a && a <= 2 {
						want[k] = a
					}
				}
				l := slices.Concat(row, []int{behind, behind, behind})
				before := slices.Clone(l)
				walks(t, "with room", d, root, l[:n], place(want))
				if !slices.Equal(l, before) {
					t.Fatalf("%v, not %v", l, before)
				}
			}
		}
	}
}

// R2: what was handed in, and what was answered, may be written into: the diagram stays.
func TestBranchesAreNotShared(t *testing.T) {
	d := begin(t, 5)
	b := branch(9, 0)
	makes(t, "first", d, b, 0)
	b.Atom, b.To[0], b.To[1], b.To[2] = 3, 7, 8, 9
	holds(t, "written into what was handed in", d, branch(9, 0))

	makes(t, "second", d, asks(2, 0, -1, 0), 1)
	for i, want := range all(t, d) {
		b, _ := d.Branch(i)
		b.Atom = 63
		for a := range b.To {
			b.To[a] = 0
		}
		again, ok := d.Branch(i)
		if again != want || !ok {
			t.Fatalf("%v, not %v", again, want)
		}
	}
	walks(t, "written into what was answered", d, 1, []int{9, 9, 2, 9, 9, 9, 9, 9, 9, 0}, 0)
	sizes(t, "written into what was answered", d, 1, 2)
	makes(t, "there still", d, branch(9, 0), 0)

	answers := []int{0, 0, 0}
	walks(t, "before", d, 1, answers, 1)
	answers[2] = 1
	walks(t, "written into the answers", d, 1, answers, 0)
}

// What is asked of a diagram alone changes nothing in it, however often.
func TestAskingChangesNothing(t *testing.T) {
	d := holding(t, 7, some()...)
	want := told(d, 10, 20, 40)
	for range 3 {
		for i := -3; i < 10; i++ {
			d.Walk(i, []int{2, 2, 2})
			d.Size(i)
			d.Branch(i)
			d.Len()
		}
		holds(t, "asked", d, some()...)
		if !slices.Equal(told(d, 10, 20, 40), want) {
			t.Fatal("another diagram")
		}
	}
	makes(t, "one more", d, branch(0, 0), 6)
}

// Each New is a diagram of its own, and of one that was refused nothing stays.
func TestEachNewIsAnother(t *testing.T) {
	d, other := holding(t, 2, branch(1, 0), asks(0, 0, 0, -1)), begin(t, 1)
	if _, err := dag.New(0); err != api.ErrArg {
		t.Fatal(err)
	}
	refused(t, "full", d, branch(3, 3), api.ErrLimit)
	makes(t, "one more of the other", other, branch(3, 3), 0)
	refused(t, "full", other, branch(1, 0), api.ErrLimit)
	refused(t, "none of the other's", other, asks(0, 1, 1, 0), api.ErrArg)
	holds(t, "one", d, branch(1, 0), asks(0, 0, 0, -1))
	holds(t, "the other", other, branch(3, 3))
	for range 100 {
		if d := begin(t, maxDag); d.Len() != 0 {
			t.Fatal(d.Len())
		}
	}
}

// R4: the numbers hang on the order in which branches are made, on nothing else.
func TestTheSameEachTime(t *testing.T) {
	for seed := range 50 {
		var first []api.Branch
		for range 3 {
			m, p := maker{x: uint64(seed)}, newPlain(maxDag)
			d := begin(t, maxDag)
			for range 100 {
				b := m.branch(p, 9, 4)
				p.make(b)
				made(t, d, b)
			}
			l := all(t, d)
			if first == nil {
				first = l
			}
			if !slices.Equal(l, first) {
				t.Fatalf("%v, not %v", l, first)
			}
		}
	}
}

// R1: long lists and full diagrams are at their end soon.
func TestLongOnes(t *testing.T) {
	d := begin(t, maxDag)
	for i := range maxDag {
		makes(t, "one more", d, branch(63, i), i)
	}
	long := slices.Repeat([]int{2}, 1<<22)
	for i := range maxDag {
		walks(t, "long answers", d, i, long, i)
		walks(t, "no answers", d, i, nil, i+1)
		sizes(t, "of ends alone", d, i, 1)
	}
	for i := range 1 << 16 {
		if way, err := d.Make(branch(62, i)); way != 0 || err != api.ErrLimit {
			t.Fatal(way, err)
		}
	}
}
