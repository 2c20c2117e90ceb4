package target_test

import (
	"slices"
	"testing"

	"bailiff/api"
)

// P13.2

func TestTheThreeTruths(t *testing.T) {
	for truth := range 3 {
		for _, m := range thatAre(truth) {
			matches(t, "alone", m, known(), truth)
			all(t, "alone", []api.Match{m}, known(), truth)
			met(t, "alone, twice", api.Target{{{m}}, {{m}}}, known(), truth)
			met(t, "alone, or itself", api.Target{{{m}, {m}}}, known(), truth)
			met(t, "alone, and itself", api.Target{{{m, m}}}, known(), truth)
		}
	}
}

func TestNothingIsAsked(t *testing.T) {
	for _, g := range [][]api.Given{nil, {}, known()} {
		all(t, "no matches", nil, g, 2)
		all(t, "no matches", []api.Match{}, g, 2)
		met(t, "no AnyOfs", nil, g, 2)
		met(t, "no AnyOfs", api.Target{}, g, 2)
		met(t, "no AllOfs", api.Target{nil}, g, 0)
		met(t, "no AllOfs", api.Target{{}}, g, 0)
		met(t, "no AllOfs, twice", api.Target{{}, nil}, g, 0)
		met(t, "no matches", api.Target{{nil}}, g, 2)
		met(t, "no matches", api.Target{{{}}}, g, 2)
		met(t, "no matches, in each", api.Target{{{}, nil}, {nil}}, g, 2)
	}
	for truth := range 3 {
		for _, m := range thatAre(truth) {
			met(t, "or no matches", api.Target{{{m}, {}}}, known(), 2)
			met(t, "no matches, or", api.Target{{{}, {m}}}, known(), 2)
			met(t, "and no matches", api.Target{{{m}}, {{}}}, known(), truth)
			met(t, "no matches, and", api.Target{{{}}, {{m}}}, known(), truth)
			met(t, "and no AllOfs", api.Target{{{m}}, {}}, known(), 0)
			met(t, "no AllOfs, and", api.Target{{}, {{m}}}, known(), 0)
		}
	}
}

// rows are all rows of up to so many of what is there.
func rows[T any](of []T, most int) [][]T {
	out, last := [][]T{nil}, [][]T{nil}
	for range most {
		var longer [][]T
		for _, l := range last {
			for _, v := range of {
				longer = append(longer, append(slices.Clone(l), v))
			}
		}
		out, last = append(out, longer...), longer
	}
	return out
}

// written are matches that come to these truths over known, of other ways each time.
func written(truths []int, way int) []api.Match {
	var l []api.Match
	for i, truth := range truths {
		ways := thatAre(truth)
		l = append(l, ways[(way+i)%len(ways)])
	}
	return l
}

func TestAllRowsOfMatches(t *testing.T) {
	g := known()
	for way, truths := range rows([]int{0, 1, 2}, 6) {
		all(t, "a row", written(truths, way), g, ofAll(truths))
		var anyOf [][]api.Match
		var targetOf api.Target
		for _, m := range written(truths, way) {
			anyOf = append(anyOf, []api.Match{m})
			targetOf = append(targetOf, [][]api.Match{{m}})
		}
		met(t, "a row of AllOfs", api.Target{anyOf}, g, ofAny(truths))
		met(t, "a row of AnyOfs", targetOf, g, ofAll(truths))
	}
}

// All targets of up to two AnyOfs of up to two AllOfs of up to two matches.
func TestAllSmallTargets(t *testing.T) {
	g := known()
	for way, truths := range rows(rows(rows([]int{0, 1, 2}, 2), 2), 2) {
		met(t, "a small one", made(truths, way), g, ofTarget(truths))
	}
}

func made(truths [][][]int, way int) api.Target {
	var t api.Target
	for i, anyOf := range truths {
		var l [][]api.Match
		for k, allOf := range anyOf {
			l = append(l, written(allOf, way+3*i+k))
		}
		t = append(t, l)
	}
	return t
}

// A few, written out.
func TestTargetsWrittenOut(t *testing.T) {
	g := known()
	no, unsure, yes := thatAre(0)[1], thatAre(1)[0], thatAre(2)[1]
	type l = []api.Match
	type alls = [][]api.Match
	for _, c := range []struct {
		t    api.Target
		want int
	}{
		{api.Target{alls{l{yes, unsure, no}}}, 0},
		{api.Target{alls{l{unsure, yes, unsure}}}, 1},
		{api.Target{alls{l{no}, l{unsure}, l{yes}}}, 2},
		{api.Target{alls{l{no}, l{unsure}}}, 1},
		{api.Target{alls{l{yes, no}, l{no, yes}}}, 0},
		{api.Target{alls{l{yes, no}, l{yes, unsure}}}, 1},
		{api.Target{alls{l{yes, no}, l{yes, yes}}}, 2},
		{api.Target{alls{l{yes}}, alls{l{unsure}}, alls{l{yes}}}, 1},
		{api.Target{alls{l{yes}}, alls{l{unsure}}, alls{l{no}}}, 0},
		{api.Target{alls{l{no}, l{yes}}, alls{l{yes}, l{no}}}, 2},
		{api.Target{alls{l{no}, l{yes}}, alls{l{no}, l{no}}}, 0},
		{api.Target{alls{l{unsure}, l{yes}}, alls{l{unsure}, l{no}}}, 1},
	} {
		met(t, "written out", c.t, g, c.want)
	}
}

// full is a target of so many AnyOfs, AllOfs in each, and matches in each of these.
func full(m api.Match, anyOfs, allOfs, ms int) api.Target {
	var t api.Target
	for range anyOfs {
		var l [][]api.Match
		for range allOfs {
			l = append(l, slices.Repeat([]api.Match{m}, ms))
		}
		t = append(t, l)
	}
	return t
}

// Just as many AnyOfs, AllOfs and matches as a right target may have: one match, or one AnyOf, of another truth at each place.
func TestFullTargets(t *testing.T) {
	g := known()
	for truth := range 3 {
		for other := range 3 {
			m, n := thatAre(truth)[1], thatAre(other)[2]
			l := full(m, maxMatch, maxMatch, maxMatch)
			met(t, "full", l, g, truth)
			for i := range l {
				for k := range l[i] {
					for j := range l[i][k] {
						l[i][k][j] = n
						// It makes its AllOf no more, and the AllOfs beside it are as they were.
						met(t, "one match", l, g, truth)
						l[i][k][j] = m
					}
				}
				l[i] = slices.Repeat([][]api.Match{{n}}, maxMatch)
				met(t, "one AnyOf", l, g, min(truth, other))
				l[i] = full(m, 1, maxMatch, maxMatch)[0]
			}
		}
	}
}

// The one AllOf, the one AnyOf and the one match that decide stand at each place.
func TestEachPlaceOfAFullTarget(t *testing.T) {
	g := known()
	for truth := range 3 {
		for other := range 3 {
			m, n := thatAre(truth)[3], thatAre(other)[4]
			for at := range maxMatch {
				row := slices.Repeat([]api.Match{m}, maxMatch)
				row[at] = n
				all(t, "one of the matches", row, g, min(truth, other))

				anyOf := full(m, 1, maxMatch, 1)
				anyOf[0][at] = []api.Match{n}
				met(t, "one of the AllOfs", anyOf, g, max(truth, other))

				each := full(m, maxMatch, maxMatch, maxMatch)
				for i := range each {
					each[i][at] = slices.Repeat([]api.Match{n}, maxMatch)
				}
				met(t, "one AllOf of each", each, g, max(truth, other))
				each[at][at] = slices.Repeat([]api.Match{m}, maxMatch)
				met(t, "one AllOf of each but one", each, g, min(truth, max(truth, other)))
			}
		}
	}
}

// More than a right target may have: neither All nor Met asks for a right one.
func TestMoreThanMayBe(t *testing.T) {
	g := known()
	for truth := range 3 {
		for other := range 3 {
			m, n := thatAre(truth)[0], thatAre(other)[0]
			for _, many := range []int{maxMatch + 1, 64, 300} {
				all(t, "many matches", append(slices.Repeat([]api.Match{m}, many-1), n), g, min(truth, other))
				met(t, "many AllOfs", api.Target{append(full(m, 1, many-1, 1)[0], []api.Match{n})}, g, max(truth, other))
				met(t, "many AnyOfs", append(full(m, many-1, 1, 1), [][]api.Match{{n}}), g, min(truth, other))
			}
		}
	}
}

// Matches that aren't right are asked like others: an Op that is none, an attribute that is none, a value that isn't right.
func TestMatchesThatAreNotRight(t *testing.T) {
	g := append(x(whole(5), whole(7)), api.Given{Bag: wholes(5)})
	more, unsure, found := of(0, whole(6)), of(api.MEq, api.Value{}), api.Match{Op: api.MEq, Value: whole(5)}
	all(t, "no Op", []api.Match{more}, g, 2)
	all(t, "no Op, and no value", []api.Match{more, unsure}, g, 1)
	all(t, "no attribute", []api.Match{found, more}, g, 2)
	met(t, "no value, or no attribute", api.Target{{{unsure}, {found}}}, g, 2)
	met(t, "no value, and no attribute", api.Target{{{unsure}}, {{found}}}, g, 1)
	all(t, "zero", []api.Match{{}}, nil, 0)
	all(t, "zero, of a value", []api.Match{{}}, g, 1)
	met(t, "zeros", make(api.Target, 9), g, 0)
}
