package dag_test

import (
	"slices"
	"testing"
)

// P16.4: Size

func TestSizeOfEndsAndOfNone(t *testing.T) {
	d := begin(t, 5)
	for n := range 4 {
		for _, root := range numbers(n) {
			if root < 0 || root >= n {
				sizes(t, "an end, or none", d, root, 0)
			}
		}
		makes(t, "one more", d, branch(9-n, n), n)
		sizes(t, "of ends alone", d, n, 1)
	}
}

// Each branch counts once, itself too, by however many ways it is reached.
func TestSizeWrittenOut(t *testing.T) {
	d := holding(t, 20,
		asks(9, -1, -2, -3), asks(9, -3, -2, -1), asks(9, -1, -1, -4), // 0 to 2
		asks(8, 0, 0, -1), asks(8, 0, -1, 1), asks(8, 0, 1, 2), // 3 to 5
		asks(7, 3, 3, 0), asks(7, 3, 4, 5), asks(7, -1, 5, -1), // 6 to 8
		asks(6, 6, 7, 8), asks(5, 9, 9, 0), asks(5, 8, -1, -2), asks(0, 2, 1, 0), // 9 to 12
	)
	for root, want := range []int{1, 1, 1, 2, 3, 4, 3, 7, 5, 10, 11, 6, 4} {
		sizes(t, "written out", d, root, want)
	}
}

// Of a branch in each place alone.
func TestSizeByEachPlace(t *testing.T) {
	d := holding(t, 20, branch(9, 0), branch(9, 1), branch(9, 2))
	for a := range 3 {
		b := asks(1, -1, -2, -3)
		b.To[a] = 0
		sizes(t, "one way", d, made(t, d, b), 2)
		b = asks(1, 0, 0, 0)
		b.To[a] = -1
		sizes(t, "two ways to one", d, made(t, d, b), 2)
		b = asks(1, 0, 0, 0)
		b.To[a] = 2
		sizes(t, "two ways to one, one to another", d, made(t, d, b), 3)
	}
	sizes(t, "three", d, made(t, d, asks(1, 2, 1, 0)), 4)
}

// Three branches of each Atom, each of which leads to all three of the next one: to go by each way by itself would take an age.
func TestSizeByManyWays(t *testing.T) {
	const wide = 3
	d := begin(t, maxDag)
	last := []int{end(0), end(1), end(2)}
	for depth := range maxVars {
		var row []int
		for i := range wide {
			row = append(row, made(t, d, asks(maxVars-1-depth, last[i], last[(i+1)%wide], last[(i+2)%wide])))
		}
		last = row
		for _, way := range row {
			sizes(t, "by many ways", d, way, 1+wide*depth)
		}
	}
	walks(t, "by many ways", d, last[0], nil, 64%wide)
}

// All of a full diagram are reached from the last one: 1, 3, 9 and 27 of the first Atoms, then 32 of each of twenty, and 33 of each of forty.
func TestSizeOfAFullOne(t *testing.T) {
	d, p := begin(t, maxDag), newPlain(maxDag)
	var next []int
	for atom, wide := range slices.Backward(slices.Concat([]int{1, 3, 9, 27}, slices.Repeat([]int{32}, 20), slices.Repeat([]int{33}, 40))) {
		var row []int
		for i := range wide {
			b := branch(atom, i)
			switch n := len(next); n {
			case 0:
			case wide:
				b = asks(atom, next[i], next[i], next[(i+1)%n])
			default:
				b = asks(atom, next[i], next[(i+wide)%n], next[(i+2*wide)%n])
			}
			p.make(b)
			row = append(row, made(t, d, b))
		}
		next = row
	}
	sizes(t, "all", d, maxDag-1, maxDag)
	for root := 0; root < maxDag; root += 37 {
		sizes(t, "a part of them", d, root, p.size(root))
	}
}
