package policy_test

import (
	"cmp"
	"strconv"
	"testing"

	"bailiff/api"
	"bailiff/policy"
)

// P8.2

func eq(n int) api.Match {
	return api.Match{Attr: attr(api.CCase, "x"), Op: api.MEq, Value: whole(n)}
}

// matches, allOfs and anyOfs are so many of one kind, each with one right match in each part.
func matches(n int) []api.Match {
	l := []api.Match{}
	for i := range n {
		l = append(l, eq(i))
	}
	return l
}

func allOfs(n int) [][]api.Match {
	l := [][]api.Match{}
	for range n {
		l = append(l, matches(1))
	}
	return l
}

func anyOfs(n int) api.Target {
	t := api.Target{}
	for range n {
		t = append(t, allOfs(1))
	}
	return t
}

// cube is a target of so many AnyOfs, AllOfs in each, and matches in each of these.
func cube(n, m, k int) api.Target {
	t := api.Target{}
	for range n {
		l := [][]api.Match{}
		for range m {
			l = append(l, matches(k))
		}
		t = append(t, l)
	}
	return t
}

func TestNoTarget(t *testing.T) {
	is(t, "nil", policy.Target(nil), api.OK)
	is(t, "empty", policy.Target(api.Target{}), api.OK)
	is(t, "empty, with room behind", policy.Target(cube(2, 0, 0)[:0]), api.OK)
}

func TestTargetsOfSeveral(t *testing.T) {
	for n := 1; n <= maxMatch; n++ {
		for m := 1; m <= maxMatch; m++ {
			for k := 1; k <= maxMatch; k++ {
				is(t, "a cube", policy.Target(cube(n, m, k)), api.OK)
			}
		}
	}
	is(t, "unlike ones", policy.Target(api.Target{{matches(1), matches(8), matches(2)}, {matches(3)}, allOfs(8)}), api.OK)
}

func TestMatchesOfEachKind(t *testing.T) {
	for _, a := range goodAttrs() {
		for _, op := range []int{api.MEq, api.MLess, api.MMore} {
			for _, v := range goodValues() {
				is(t, "a match", policy.Target(api.Target{{{{Attr: a, Op: op, Value: v}}}}), api.OK)
			}
		}
	}
	for op := -300; op <= 300; op++ {
		want := api.ErrArg
		if 1 <= op && op <= 3 {
			want = api.OK
		}
		m := eq(1)
		m.Op = op
		is(t, "Op "+strconv.Itoa(op), policy.Target(api.Target{{{m}}}), want)
	}
}

// badMatches are wrong each in one field alone.
func badMatches() []api.Match {
	var l []api.Match
	for _, a := range badAttrs() {
		l = append(l, api.Match{Attr: a, Op: api.MEq, Value: whole(1)})
	}
	for _, op := range outside(api.MEq, api.MMore) {
		l = append(l, api.Match{Attr: attr(api.CCase, "x"), Op: op, Value: whole(1)})
	}
	for _, v := range badValues() {
		l = append(l, api.Match{Attr: attr(api.CCase, "x"), Op: api.MLess, Value: v})
	}
	return append(l, api.Match{})
}

func TestWrongMatchesAtEachPlace(t *testing.T) {
	for i, bad := range badMatches() {
		is(t, "a match by itself", policy.Target(api.Target{{{bad}}}), api.ErrArg)
		for _, place := range []int{0, 1, 3, 4, 6, 7} {
			for _, other := range []int{0, 4, 7} {
				l := cube(8, 8, 8)
				l[place][other][(place+i)%8] = bad
				is(t, "a match among others", policy.Target(l), api.ErrArg)
			}
		}
	}
	for place := range 8 * 8 * 8 {
		l := cube(8, 8, 8)
		l[place/64][place/8%8][place%8].Op = api.MMore + 1
		is(t, "a match at "+strconv.Itoa(place), policy.Target(l), api.ErrArg)
	}
}

func TestCountsOfATargetsParts(t *testing.T) {
	for _, n := range []int{1, 2, 7, maxMatch, maxMatch + 1, maxMatch + 2, 16, 63, 64, 255, 256, 257, 264, 1 << 16, 1<<16 + 1} {
		what, want := strconv.Itoa(n), limited(n, maxMatch)
		is(t, what+" AnyOfs", policy.Target(anyOfs(n)), want)
		is(t, what+" AnyOfs that are empty", policy.Target(make(api.Target, n)), cmp.Or(want, api.ErrArg))
		is(t, what+" AllOfs", policy.Target(api.Target{allOfs(n)}), want)
		is(t, what+" AllOfs that are empty", policy.Target(api.Target{make([][]api.Match, n)}), cmp.Or(want, api.ErrArg))
		is(t, what+" matches", policy.Target(api.Target{{matches(n)}}), want)
		is(t, what+" matches that are zero", policy.Target(api.Target{{make([]api.Match, n)}}), cmp.Or(want, api.ErrArg))
		for place := range maxMatch {
			l := cube(8, 8, 2)
			l[place] = allOfs(n)
			is(t, what+" AllOfs among others", policy.Target(l), want)
			l = cube(8, 8, 2)
			l[7-place][place] = matches(n)
			is(t, what+" matches among others", policy.Target(l), want)
		}
	}
}

func TestPartsOfNothing(t *testing.T) {
	for place := range maxMatch {
		for _, none := range [][][]api.Match{nil, {}, allOfs(3)[:0]} {
			l := cube(8, 2, 2)
			l[place] = none
			is(t, "an AnyOf of nothing", policy.Target(l), api.ErrArg)
		}
		for _, none := range [][]api.Match{nil, {}, matches(3)[:0]} {
			l := cube(8, 8, 2)
			l[7-place][place] = none
			is(t, "an AllOf of nothing", policy.Target(l), api.ErrArg)
		}
	}
	is(t, "an AnyOf of nothing alone", policy.Target(api.Target{{}}), api.ErrArg)
	is(t, "an AllOf of nothing alone", policy.Target(api.Target{{{}}}), api.ErrArg)
}

// targetFaults are those of each part of a cube of so many, in P8.2's order.
func targetFaults(n, m, k int) []fault[api.Target] {
	l := []fault[api.Target]{
		{"more AnyOfs", api.ErrLimit, func(t *api.Target) { *t = append(*t, anyOfs(maxMatch+1-n)...) }},
	}
	for i := range n {
		l = append(l,
			fault[api.Target]{"no AllOf", api.ErrArg, func(t *api.Target) { (*t)[i] = nil }},
			fault[api.Target]{"more AllOfs", api.ErrLimit, func(t *api.Target) { (*t)[i] = append((*t)[i], allOfs(maxMatch+1-m)...) }},
		)
		for j := range m {
			l = append(l,
				fault[api.Target]{"no match", api.ErrArg, func(t *api.Target) { (*t)[i][j] = nil }},
				fault[api.Target]{"more matches", api.ErrLimit, func(t *api.Target) { (*t)[i][j] = append((*t)[i][j], matches(maxMatch+1-k)...) }},
			)
			for h := range k {
				l = append(l,
					fault[api.Target]{"a match's Attr", api.ErrArg, func(t *api.Target) { (*t)[i][j][h].Attr.Cat = 5 }},
					fault[api.Target]{"a match's Op", api.ErrArg, func(t *api.Target) { (*t)[i][j][h].Op = 0 }},
					fault[api.Target]{"a match's Value", api.ErrArg, func(t *api.Target) { (*t)[i][j][h].Value = api.Value{} }},
				)
			}
		}
	}
	return l
}

func TestTheFirstOfATargetsFaults(t *testing.T) {
	for _, n := range [][3]int{{1, 1, 1}, {2, 2, 2}, {3, 3, 3}, {7, 1, 1}, {1, 7, 1}, {1, 1, 7}} {
		fresh := func() api.Target { return cube(n[0], n[1], n[2]) }
		firstIsTold(t, fresh, policy.Target, targetFaults(n[0], n[1], n[2]))
	}
}

// Of a row of AnyOfs the error of the first wrong one is told, but for a row that is too long.
func TestRowsOfParts(t *testing.T) {
	bad := eq(1)
	bad.Op = 4
	parts := []struct {
		anyOf [][]api.Match
		want  api.Errno
	}{
		{allOfs(1), api.OK}, {cube(1, 8, 8)[0], api.OK}, {nil, api.ErrArg}, {allOfs(9), api.ErrLimit}, {make([][]api.Match, 9), api.ErrLimit}, {make([][]api.Match, 8), api.ErrArg},
		{[][]api.Match{matches(1), nil}, api.ErrArg}, {[][]api.Match{matches(9)}, api.ErrLimit}, {[][]api.Match{make([]api.Match, 9)}, api.ErrLimit},
		{[][]api.Match{matches(1), matches(9), nil}, api.ErrLimit}, {[][]api.Match{{eq(1), bad}, matches(9)}, api.ErrArg}, {[][]api.Match{{}, matches(9)}, api.ErrArg}, {[][]api.Match{matches(8), {bad}}, api.ErrArg},
	}
	for _, a := range parts {
		for _, b := range parts {
			for _, c := range parts {
				first := cmp.Or(a.want, b.want, c.want)
				is(t, "three AnyOfs", policy.Target(api.Target{a.anyOf, b.anyOf, c.anyOf}), first)
				is(t, "three AnyOfs and seven", policy.Target(append(anyOfs(7), a.anyOf, b.anyOf, c.anyOf)), api.ErrLimit)
			}
		}
	}
}
