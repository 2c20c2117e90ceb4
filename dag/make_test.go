package dag_test

import (
	"slices"
	"testing"

	"bailiff/api"
	"bailiff/dag"
)

// P16.1: New, Len, Branch

func TestNewOfEachMost(t *testing.T) {
	for n := 1; n <= maxDag; n++ {
		d := begin(t, n)
		if d.Len() != 0 {
			t.Fatalf("%d at first, of %d", d.Len(), n)
		}
		for _, i := range []int{0, 1, n - 1, n, -1, least, most} {
			none(t, "at first", d, i)
		}
	}
}

func TestNewRefused(t *testing.T) {
	for _, n := range []int{0, -1, -2, maxDag + 1, maxDag + 2, -maxDag, least, least + 1, most, most - 1, 1 << 32, 1<<32 + 1, 1<<32 + maxDag, -1<<32 + 1, 1<<16 + 1, 257 << 8} {
		if d, err := dag.New(n); d != nil || err != api.ErrArg {
			t.Errorf("New(%d): %v, error %d", n, d, err)
		}
	}
}

// numbers are no branches' where there are n of them.
func numbers(n int) []int {
	return []int{n, n + 1, maxDag, maxDag - 1, maxDag + 1, maxVars, -1, -2, -n, -n - 1, furthest, furthest - 1, least, least + 1, most, most - 1, 1 << 32, 1<<32 + n - 1, -1 << 32, -1<<32 + n - 1, 1 << 62, 1 << 31}
}

func TestBranchOfEachNumber(t *testing.T) {
	d := begin(t, 20)
	var l []api.Branch
	for n := range 20 {
		b := branch(n, n)
		makes(t, "one more", d, b, n)
		l = append(l, b)
		holds(t, "so far", d, l...)
		for _, i := range numbers(n + 1) {
			if i < 0 || i > n {
				none(t, "so far", d, i)
			}
		}
	}
}

// P16.2: Make of what is right

func TestBranchesOfEndsAndBranches(t *testing.T) {
	d := begin(t, 10)
	makes(t, "of ends", d, asks(7, end(0), end(1), end(2)), 0)
	makes(t, "of ends", d, asks(7, end(2), end(1), end(0)), 1)
	makes(t, "of branches", d, asks(6, 0, 1, 0), 2)
	makes(t, "of both", d, asks(5, 2, end(0), 1), 3)
	makes(t, "of two alike", d, asks(4, 3, 3, end(0)), 4)
	makes(t, "of two alike", d, asks(4, 3, end(0), 3), 5)
	makes(t, "of two alike", d, asks(4, end(0), 3, 3), 6)
	makes(t, "past atoms between", d, asks(0, 0, 4, 6), 7)
	makes(t, "of an Atom that others have", d, asks(0, 0, 4, end(6)), 8)
	makes(t, "of a greater Atom than the last one's", d, asks(63, end(0), end(1), end(1)), 9)
	holds(t, "all", d, asks(7, -1, -2, -3), asks(7, -3, -2, -1), asks(6, 0, 1, 0), asks(5, 2, -1, 1), asks(4, 3, 3, -1), asks(4, 3, -1, 3), asks(4, -1, 3, 3), asks(0, 0, 4, 6), asks(0, 0, 4, -7), asks(63, -1, -2, -2))
}

// Each Atom above each, in each place; only greater ones may follow.
func TestAtomsRise(t *testing.T) {
	for atom := range maxVars {
		for next := range maxVars {
			for place := range 3 {
				d := holding(t, 3, branch(next, 0), branch(next, 1))
				b := asks(atom, end(0), end(1), end(0))
				b.To[place] = 1
				if next > atom {
					makes(t, "a greater Atom behind it", d, b, 2)
				} else {
					refused(t, "none greater behind it", d, b, api.ErrArg)
				}
			}
		}
	}
}

// A wrong way is told, whatever the other two are.
func TestAtomsRiseInAllPlaces(t *testing.T) {
	l := []api.Branch{branch(3, 0), branch(5, 0), branch(5, 1), branch(7, 0)}
	wrong := map[int]bool{0: true, 1: true, 2: true}
	ways := []int{0, 1, 2, 3, end(0), end(5)}
	for _, no := range ways {
		for _, unsure := range ways {
			for _, yes := range ways {
				d := holding(t, 10, l...)
				b := asks(5, no, unsure, yes)
				switch {
				case wrong[no] || wrong[unsure] || wrong[yes]:
					refused(t, "no greater Atom behind it", d, b, api.ErrArg)
				case no == unsure && no == yes:
					makes(t, "one way", d, b, no)
				case b == l[1] || b == l[2]:
					makes(t, "there already", d, b, slices.Index(l, b))
				default:
					makes(t, "one more", d, b, 4)
				}
			}
		}
	}
}

func TestEndsInEachPlace(t *testing.T) {
	for place := range 3 {
		for _, way := range []int{-1, -2, -3, -64, -65, -2000, -2001, -1 << 16, -1<<16 - 1, furthest + 1, furthest} {
			d := holding(t, 2, asks(1, end(7), end(8), end(8)))
			b := asks(0, end(77), end(78), end(79))
			b.To[place] = way
			makes(t, "an end", d, b, 1)
			walks(t, "an end", d, 1, []int{place}, -1-way)
		}
	}
	for _, atom := range []int{0, 1, 31, 32, 62, 63} {
		makes(t, "the furthest end in all places", begin(t, 1), asks(atom, furthest, furthest, furthest), furthest)
		makes(t, "far ends", begin(t, 1), asks(atom, furthest, furthest+1, furthest), 0)
	}
}

func TestEachAtom(t *testing.T) {
	d := begin(t, maxVars)
	for atom := range maxVars {
		makes(t, "an Atom", d, branch(atom, 0), atom)
	}
}

// What all three answers lead to alike is no branch.
func TestOneWay(t *testing.T) {
	l := []api.Branch{branch(9, 0), branch(9, 1), asks(8, 0, 0, 1), asks(7, 2, 0, 1)}
	for _, d := range []*dag.Dag{holding(t, 5, l...), holding(t, 4, l...)} {
		for way, b := range l {
			for atom := range b.Atom {
				makes(t, "one way, of a branch", d, asks(atom, way, way, way), way)
			}
		}
		for _, way := range []int{-1, -2, -5, -64, -2000, furthest + 1, furthest} {
			for atom := range maxVars {
				makes(t, "one way, of an end", d, asks(atom, way, way, way), way)
			}
		}
		holds(t, "one way", d, l...)
	}
}

// Each branch of a full diagram is found where it is, however often it is made again, and nothing is one more.
func TestThereAlready(t *testing.T) {
	d := begin(t, maxDag)
	var l []api.Branch
	for i := range maxDag {
		l = append(l, branch(i%maxVars, i))
		makes(t, "one more", d, l[i], i)
		makes(t, "again", d, l[i], i)
		makes(t, "the first one again", d, l[0], 0)
		makes(t, "one between again", d, l[i/2], i/2)
	}
	for range 2 {
		for i, b := range l {
			makes(t, "again", d, b, i)
		}
	}
	holds(t, "all", d, l...)
}

// near are branches that differ from one of Atom 5 in one part or two, and lead to ends, or to the branch 0 or 1.
func near() []api.Branch {
	var l []api.Branch
	ways := []int{0, 1, end(0), end(1), end(256), end(1 << 16)}
	for _, atom := range []int{3, 4, 5} {
		for _, no := range ways {
			for _, unsure := range ways {
				for _, yes := range ways {
					if no != unsure || no != yes {
						l = append(l, asks(atom, no, unsure, yes))
					}
				}
			}
		}
	}
	return l
}

// Branches that are unlike in one part alone are two.
func TestUnlikeInOnePart(t *testing.T) {
	l := append([]api.Branch{branch(63, 0), branch(63, 1)}, near()...)
	d := holding(t, maxDag, l...)
	for i, b := range slices.Backward(l) {
		makes(t, "again", d, b, i)
	}
	holds(t, "all", d, l...)
}

// ErrLimit

func TestFull(t *testing.T) {
	for _, n := range []int{1, 2, 3, 63, 64, 65, 255, 256, 257, 1000, 1999, 2000} {
		var l []api.Branch
		for i := range n {
			l = append(l, branch(1+i%maxVars/2, i))
		}
		d := holding(t, n, l...)
		for _, i := range []int{0, n / 2, n - 1} {
			makes(t, "full: there already", d, l[i], i)
			makes(t, "full: one way", d, asks(0, i, i, i), i)
		}
		makes(t, "full: one way", d, asks(63, -9, -9, -9), -9)
		refused(t, "full: one more", d, branch(0, 0), api.ErrLimit)
		refused(t, "full: one more", d, asks(0, 0, n-1, end(0)), api.ErrLimit)
		refused(t, "full: one more", d, asks(63, furthest, end(0), furthest), api.ErrLimit)
		for i := range 3 {
			b := branch(0, 0)
			b.To[i] = n
			refused(t, "full, and wrong", d, b, api.ErrArg)
		}
		refused(t, "full, and wrong", d, branch(-1, 0), api.ErrArg)
		refused(t, "full, and wrong", d, branch(64, 0), api.ErrArg)
		makes(t, "full: there already", d, l[n-1], n-1)
		holds(t, "full", d, l...)
	}
}
