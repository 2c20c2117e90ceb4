package policy_test

import (
	"cmp"
	"slices"
	"strconv"
	"testing"

	"bailiff/api"
	"bailiff/policy"
)

// P8.4

func obl(on, kind int, arg string) api.Obl { return api.Obl{On: on, Kind: kind, Arg: arg} }

func TestDutiesOfEachKind(t *testing.T) {
	is(t, "nil", policy.Obls(nil), api.OK)
	is(t, "empty", policy.Obls([]api.Obl{}), api.OK)
	is(t, "empty, with room behind", policy.Obls(make([]api.Obl, 9)[:0]), api.OK)
	for _, on := range []int{1, 2} {
		for _, kind := range []int{api.OLog, api.ORedact, api.OReview, api.ONotify} {
			for _, arg := range goodNames() {
				is(t, "a duty", policy.Obls([]api.Obl{obl(on, kind, arg)}), api.OK)
				is(t, "a duty behind others", policy.Obls([]api.Obl{obl(1, api.OLog, "a"), obl(2, api.OLog, "a"), obl(on, kind, arg)}), api.OK)
			}
		}
	}
	for n := -300; n <= 300; n++ {
		on, kind := api.ErrArg, api.ErrArg
		if n == 1 || n == 2 {
			on = api.OK
		}
		if 1 <= n && n <= 4 {
			kind = api.OK
		}
		is(t, "On "+strconv.Itoa(n), policy.Obls([]api.Obl{obl(n, api.OLog, "a")}), on)
		is(t, "Kind "+strconv.Itoa(n), policy.Obls([]api.Obl{obl(1, n, "a")}), kind)
	}
}

// badObls are wrong each in one field alone.
func badObls() []api.Obl {
	l := []api.Obl{{}}
	for _, on := range outside(1, 2) {
		l = append(l, obl(on, api.OLog, "a"))
	}
	for _, kind := range outside(api.OLog, api.ONotify) {
		l = append(l, obl(2, kind, "a"))
	}
	for _, arg := range badNames() {
		l = append(l, obl(1, api.ONotify, arg))
	}
	return l
}

func duties(n int) []api.Obl {
	l := []api.Obl{}
	for i := range n {
		l = append(l, obl(1+i%2, 1+i%4, "d"+strconv.Itoa(i)))
	}
	return l
}

func TestCountsOfDuties(t *testing.T) {
	for _, n := range []int{0, 1, 2, 7, maxObls, maxObls + 1, maxObls + 2, 16, 255, 256, 257, 264, 1 << 16, 1<<16 + 1} {
		is(t, strconv.Itoa(n)+" duties", policy.Obls(duties(n)), limited(n, maxObls))
		is(t, strconv.Itoa(n)+" of one duty", policy.Obls(slices.Repeat(duties(1), n)), limited(n, maxObls))
		if n > 0 {
			is(t, strconv.Itoa(n)+" duties of nothing", policy.Obls(make([]api.Obl, n)), cmp.Or(limited(n, maxObls), api.ErrArg))
		}
	}
}

func TestWrongDutiesAtEachPlace(t *testing.T) {
	for _, bad := range badObls() {
		for n := 1; n <= maxObls; n++ {
			for place := range n {
				l := duties(n)
				l[place] = bad
				is(t, "a duty among others", policy.Obls(l), api.ErrArg)
			}
		}
		for place := range maxObls + 1 {
			l := duties(maxObls + 1)
			l[place] = bad
			is(t, "a duty among too many", policy.Obls(l), api.ErrLimit)
		}
	}
}
