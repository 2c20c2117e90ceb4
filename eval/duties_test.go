package eval_test

import (
	"math"
	"slices"
	"strings"
	"testing"

	"bailiff/api"
	"bailiff/eval"
)

// P14.1

// ons are On 1 and 2, and ones that are none of the two; some would be if they were cut short or turned round.
func ons() []int {
	return []int{1, 2, 0, 3, -1, -2, 4, 1<<8 + 1, 1<<16 + 2, 1<<32 + 1, 1<<32 + 2, math.MaxInt, math.MinInt, math.MinInt + 1, math.MinInt + 2}
}

// notSure are the decisions that are neither Permit nor Deny, and marks that are no decisions.
func notSure() []api.Mark {
	l := []api.Mark{api.NotApplicable, api.IndetP, api.IndetD, api.IndetDP}
	for _, p := range parts() {
		for _, d := range parts() {
			m := api.Mark(complex(p, d))
			if m != api.Permit && m != api.Deny {
				l = append(l, m)
			}
		}
	}
	return l
}

func parts() []float64 {
	return []float64{0, 0.25, 0.5, math.Nextafter(1, 0), 1, math.Nextafter(1, 2), 2, 3, -0.5, -1, -2, math.Inf(1), math.Inf(-1), math.SmallestNonzeroFloat64, math.MaxFloat64}
}

func has(t *testing.T, what string, l []api.Obl, m api.Mark, want ...api.Obl) {
	t.Helper()
	if got := eval.Duties(l, m); !slices.Equal(got, want) {
		t.Fatalf("%s: of %+v beside %v: %+v, not %+v", what, l, m, got, want)
	}
}

func TestDutiesWrittenOut(t *testing.T) {
	a, b, c, d := api.Obl{On: 1, Kind: api.OLog, Arg: "a"}, api.Obl{On: 2, Kind: api.ORedact, Arg: "b"}, api.Obl{On: 1, Kind: api.OReview, Arg: "c"}, api.Obl{On: 2, Kind: api.ONotify, Arg: "d"}
	l := []api.Obl{a, b, c, d}
	has(t, "on Permit", l, api.Permit, a, c)
	has(t, "on Deny", l, api.Deny, b, d)
	has(t, "in their order", []api.Obl{c, d, a, b}, api.Permit, c, a)
	has(t, "in their order", []api.Obl{d, c, b, a}, api.Deny, d, b)
	has(t, "twice", []api.Obl{b, b, a, b}, api.Deny, b, b, b)
	has(t, "none on Deny", []api.Obl{a, c}, api.Deny)
	has(t, "none on Permit", []api.Obl{b, d}, api.Permit)
	for _, m := range notSure() {
		has(t, "neither", l, m)
	}
	for _, m := range []api.Mark{api.Permit, api.Deny, api.NotApplicable, api.IndetDP} {
		has(t, "none at all", nil, m)
		has(t, "none at all", []api.Obl{}, m)
	}
}

// Each On with each kind, and with what may be no duty: only On counts.
func TestEachDuty(t *testing.T) {
	kinds := []int{api.OLog, api.ORedact, api.OReview, api.ONotify, 0, 5, -1, math.MaxInt, math.MinInt}
	for _, on := range ons() {
		for _, kind := range kinds {
			for _, arg := range []string{"a", "abcdefghijklmnop", "", "A", "a b", "\x00\xff", strings.Repeat("a", 99)} {
				o := api.Obl{On: on, Kind: kind, Arg: arg}
				has(t, "alone, on Permit", []api.Obl{o}, api.Permit, slices.Repeat([]api.Obl{o}, times(on == 1))...)
				has(t, "alone, on Deny", []api.Obl{o}, api.Deny, slices.Repeat([]api.Obl{o}, times(on == 2))...)
				for _, m := range notSure() {
					has(t, "alone", []api.Obl{o}, m)
				}
			}
		}
	}
}

func times(so bool) int {
	if so {
		return 1
	}
	return 0
}

// rows are all rows of up to so many of what is there.
func rows[T any](of []T, most int) [][]T {
	out, last := [][]T{nil}, [][]T{nil}
	for range most {
		var longer [][]T
		for _, l := range last {
			for _, v := range of {
				longer = append(longer, append(slices.Clone(l), v))
			}
		}
		out, last = append(out, longer...), longer
	}
	return out
}

// All rows of up to five duties: on Permit, on Deny, on none of both.
func TestAllRowsOfDuties(t *testing.T) {
	for _, row := range rows([]int{0, 1, 2, 3}, 5) {
		var l, onPermit, onDeny []api.Obl
		for i, on := range row {
			o := api.Obl{On: on, Kind: 1 + i%4, Arg: string(rune('a' + i))}
			l = append(l, o)
			switch on {
			case 1:
				onPermit = append(onPermit, o)
			case 2:
				onDeny = append(onDeny, o)
			}
		}
		has(t, "a row", l, api.Permit, onPermit...)
		has(t, "a row", l, api.Deny, onDeny...)
		for _, m := range notSure()[:4] {
			has(t, "a row", l, m)
		}
	}
}

// More than a right policy may have.
func TestManyDuties(t *testing.T) {
	l := slices.Repeat(dutiesOf("x"), 1<<12)
	has(t, "many", l, api.Permit, slices.Repeat(dutiesOn("x", api.Permit), 1<<12)...)
	has(t, "many", l, api.Deny, slices.Repeat(dutiesOn("x", api.Deny), 1<<12)...)
	has(t, "many", l, api.IndetDP)
}

// A part that is minus nought is nought.
func TestMinusNought(t *testing.T) {
	nought := math.Copysign(0, -1)
	has(t, "Permit", dutiesOf("x"), api.Mark(complex(1, nought)), dutiesOn("x", api.Permit)...)
	has(t, "Deny", dutiesOf("x"), api.Mark(complex(nought, 1)), dutiesOn("x", api.Deny)...)
	has(t, "NotApplicable", dutiesOf("x"), api.Mark(complex(nought, nought)))
}
