package dag_test

import (
	"slices"
	"testing"

	"bailiff/api"
)

// P16.2 of branches that aren't right

// some is a diagram with room for one more.
func some() []api.Branch {
	return []api.Branch{branch(40, 0), branch(40, 1), asks(20, 0, 1, end(3)), asks(20, 1, 0, end(3)), asks(10, 2, 3, end(0)), branch(0, 9)}
}

func TestWrongAtoms(t *testing.T) {
	for _, atom := range []int{-1, -2, -64, maxVars, maxVars + 1, 127, 128, 255, 256, maxDag, least, least + 1, most, most - 63, 1 << 32, 1<<32 + 1, -1 << 32, -1<<32 + 1, 1 << 62, 1 << 31} {
		for _, room := range []int{0, 1} {
			d := holding(t, len(some())+room, some()...)
			refused(t, "no Atom: of ends", d, asks(atom, end(0), end(1), end(2)), api.ErrArg)
			refused(t, "no Atom: of branches", d, asks(atom, 0, 1, 0), api.ErrArg)
			refused(t, "no Atom: one way, of an end", d, asks(atom, end(0), end(0), end(0)), api.ErrArg)
			refused(t, "no Atom: one way, of a branch", d, asks(atom, 0, 0, 0), api.ErrArg)
			refused(t, "no Atom: else there already", d, asks(atom, end(0), end(1), end(0)), api.ErrArg)
			refused(t, "no Atom, and no way", d, asks(atom, end(0), 6, end(0)), api.ErrArg)
		}
	}
}

// wrongWays aren't ways of a branch of Atom 20 in such a diagram.
func wrongWays() []int {
	return []int{
		6, 7, 8, 63, 64, maxDag - 1, maxDag, maxDag + 1, most, most - 1, 1 << 31, 1<<31 - 1, 1 << 32, 1<<32 + 1, 1<<33 + 1, 1 << 62, 256, 257, 1 << 16, 1<<16 + 1,
		furthest - 1, furthest - 2, 2 * furthest, -1 << 21, -1 << 31, -1<<32 - 1, -1 << 32, -1<<32 + 1, -1 << 40, least, least + 1, -1 << 62,
		2, 3, 4, 5,
	}
}

func TestWrongWays(t *testing.T) {
	for _, way := range wrongWays() {
		for _, room := range []int{0, 1} {
			d := holding(t, len(some())+room, some()...)
			for _, b := range some()[:4] {
				for place := range 3 {
					if b.Atom == 40 {
						b.Atom = 20
					}
					wrong := b
					wrong.To[place] = way
					refused(t, "no way, in one place", d, wrong, api.ErrArg)
					wrong = asks(20, way, way, way)
					wrong.To[place] = b.To[place]
					refused(t, "no way, in two places", d, wrong, api.ErrArg)
				}
			}
			refused(t, "no way, in all places", d, asks(20, way, way, way), api.ErrArg)
		}
	}
}

// Nor are there any branches to which one leads at first; nor does a branch lead to itself.
func TestWaysAtFirst(t *testing.T) {
	d := begin(t, 3)
	for place := range 3 {
		b := asks(0, end(0), end(1), end(2))
		b.To[place] = 0
		refused(t, "at first", d, b, api.ErrArg)
	}
	refused(t, "at first", d, asks(0, 0, 0, 0), api.ErrArg)
	makes(t, "at first", d, branch(1, 0), 0)
	refused(t, "itself", d, asks(0, end(0), end(1), 1), api.ErrArg)
	makes(t, "the first one", d, asks(0, end(0), end(1), 0), 1)
	refused(t, "itself", d, asks(0, 2, 2, 2), api.ErrArg)
	holds(t, "at last", d, branch(1, 0), asks(0, end(0), end(1), 0))
}

// R3: behind each refusal all is as if it hadn't been asked.
func TestRefusedChangesNothing(t *testing.T) {
	d := holding(t, 7, some()...)
	before := told(d, 10, 20, 40)
	for _, way := range wrongWays() {
		refused(t, "no way", d, asks(20, end(0), way, end(2)), api.ErrArg)
		refused(t, "no Atom", d, asks(-1, end(0), way, end(2)), api.ErrArg)
		refused(t, "no Atom", d, asks(64, end(0), 0, end(2)), api.ErrArg)
		if !slices.Equal(told(d, 10, 20, 40), before) {
			t.Fatalf("another diagram behind %d", way)
		}
	}
	makes(t, "one more", d, asks(0, 4, 4, end(0)), 6)
	before = told(d, 0, 10, 20, 40)
	for range 3 {
		refused(t, "full", d, asks(0, 4, end(0), end(0)), api.ErrLimit)
		if !slices.Equal(told(d, 0, 10, 20, 40), before) {
			t.Fatal("another diagram")
		}
	}
	for i, b := range append(some(), asks(0, 4, 4, end(0))) {
		makes(t, "there still", d, b, i)
	}
}
