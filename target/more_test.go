package target_test

import (
	"slices"
	"testing"

	"bailiff/api"
	"bailiff/target"
)

// P13.3

// put is the list with one more at that place, and the list as it was.
func put[T any](l []T, at int, v T) []T { return slices.Insert(slices.Clone(l), at, v) }

// counts says how often more of something made it less, left it, or made it more.
type counts [3]int

func (c *counts) add(before, after int) {
	switch {
	case after < before:
		c[0]++
	case after == before:
		c[1]++
	default:
		c[2]++
	}
}

// neverMore and neverLess ask, too, that it was seen to change: else they would say little.
func neverMore(t *testing.T, what string, c counts) {
	t.Helper()
	if c[2] > 0 || c[0] < 500 || c[1] < 500 {
		t.Errorf("%s: less, the same, more: %v", what, c)
	}
}

func neverLess(t *testing.T, what string, c counts) {
	t.Helper()
	if c[0] > 0 || c[2] < 500 || c[1] < 500 {
		t.Errorf("%s: less, the same, more: %v", what, c)
	}
}

func TestMoreOfAMixedTarget(t *testing.T) {
	var allOfs, anyOfs, matches, rows counts
	for i := range 30000 {
		m := maker{x: uint64(i)}
		l, g := m.target(3), m.request()
		before := target.Met(l, g)
		anyOfs.add(before, target.Met(put(l, m.n(len(l)+1), m.anyOf(3)), g))
		row := m.allOf(3)
		rows.add(target.All(row, g), target.All(put(row, m.n(len(row)+1), m.match()), g))
		if len(l) == 0 {
			continue
		}
		at := m.n(len(l))
		more := slices.Clone(l)
		more[at] = put(l[at], m.n(len(l[at])+1), m.allOf(3))
		allOfs.add(before, target.Met(more, g))
		if len(l[at]) == 0 {
			continue
		}
		k := m.n(len(l[at]))
		more[at] = slices.Clone(l[at])
		more[at][k] = put(l[at][k], m.n(len(l[at][k])+1), m.match())
		matches.add(before, target.Met(more, g))
	}
	neverLess(t, "AllOfs", allOfs)
	neverMore(t, "AnyOfs", anyOfs)
	neverMore(t, "matches", matches)
	neverMore(t, "matches of an AllOf", rows)
}

// Each truth, put at each place of each small target.
func TestMoreOfEachSmallTarget(t *testing.T) {
	g := known()
	var allOfs, anyOfs, matches counts
	for way, truths := range rows(rows(rows([]int{0, 1, 2}, 1), 2), 2) {
		l := made(truths, way)
		before := target.Met(l, g)
		for truth := range 3 {
			n := thatAre(truth)[way%5]
			for at := range len(l) + 1 {
				anyOfs.add(before, target.Met(put(l, at, [][]api.Match{{n}}), g))
			}
			for at, anyOf := range l {
				more := slices.Clone(l)
				for k := range len(anyOf) + 1 {
					more[at] = put(anyOf, k, []api.Match{n})
					allOfs.add(before, target.Met(more, g))
				}
				for k, allOf := range anyOf {
					more[at] = slices.Clone(anyOf)
					for j := range len(allOf) + 1 {
						more[at][k] = put(allOf, j, n)
						matches.add(before, target.Met(more, g))
					}
				}
			}
		}
	}
	neverLess(t, "AllOfs", allOfs)
	neverMore(t, "AnyOfs", anyOfs)
	neverMore(t, "matches", matches)
}

// Empty ones more: an AllOf without matches makes an AnyOf met, an AnyOf without AllOfs a target not met.
func TestMoreEmptyOnes(t *testing.T) {
	for i := range 3000 {
		m := maker{x: uint64(i)}
		l, g := m.target(3), m.request()
		met(t, "an AnyOf without AllOfs", put(l, m.n(len(l)+1), nil), g, 0)
		met(t, "an AnyOf of an AllOf without matches", put(l, m.n(len(l)+1), [][]api.Match{{}}), g, target.Met(l, g))
		if len(l) > 0 {
			at := m.n(len(l))
			rest, more := slices.Delete(slices.Clone(l), at, at+1), slices.Clone(l)
			more[at] = put(l[at], m.n(len(l[at])+1), nil)
			met(t, "an AllOf without matches", more, g, target.Met(rest, g))
		}
	}
}
