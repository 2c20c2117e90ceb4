package index_test

import (
	"slices"
	"strconv"
	"strings"
	"testing"

	"bailiff/api"
	"bailiff/index"
	"bailiff/target"
)

// P18.2

func TestPicksWrittenOut(t *testing.T) {
	s := read(t, strings.Join([]string{
		"set s denyover {",
		"policy a first when (case.x = 1) { }",
		"policy b first when (case.x = 2) { permit br; }",
		"policy c first { deny cr when (case.x = 2); }",
		"policy d first when (case.x < 1) { }",
		"policy e first when (case.x! = 1) { }",
		"policy f first when (case.x = 1 or case.y = 1) { }",
		"policy g first when (case.y = 1, case.x = 1) { }",
		"set h only when (case.x < 0) and (case.y = \"a\") { policy i first when (case.x = 1) { } }",
		"set j only when (case.x = 1 or case.y = 2) and (case.z < 3, case.w = 4) { }",
		"}",
	}, "\n"))
	for _, c := range []struct {
		what string
		g    []api.Given
		want []int
	}{
		{"nothing", nil, []int{2, 3, 4, 5}},
		{"nothing", []api.Given{}, []int{2, 3, 4, 5}},
		{"x 1", x(whole(1)), []int{0, 2, 3, 4, 5}},
		{"x 2", x(whole(2)), []int{1, 2, 3, 4, 5}},
		{"x 3", x(whole(3)), []int{2, 3, 4, 5}},
		{"x 1 2", x(whole(1), whole(2)), []int{0, 1, 2, 3, 4, 5}},
		{"x 3 2", x(whole(3), whole(2)), []int{1, 2, 3, 4, 5}},
		{"x empty", x(), []int{2, 3, 4, 5}},
		{"x of another kind", x(text("a")), []int{0, 1, 2, 3, 4, 5}},
		{"x of another kind of the same number", x(tick(1)), []int{0, 1, 2, 3, 4, 5}},
		{"x of two kinds", x(whole(3), text("a")), []int{0, 1, 2, 3, 4, 5}},
		{"x no value", x(api.Value{}), []int{0, 1, 2, 3, 4, 5}},
		{"x 1 and y 1", append(x(whole(1)), given(api.CCase, "y", whole(1))), []int{0, 2, 3, 4, 5, 6, 7}},
		{"x 2 and y 1: the first match is met", append(x(whole(2)), given(api.CCase, "y", whole(1))), []int{1, 2, 3, 4, 5, 6, 7}},
		{"y a: whatever x is", []api.Given{given(api.CCase, "y", text("a"))}, []int{2, 3, 4, 5, 6, 7}},
		{"y b", []api.Given{given(api.CCase, "y", text("b"))}, []int{2, 3, 4, 5, 6}},
		{"w 4: not for these", []api.Given{given(api.CCase, "w", whole(4))}, []int{2, 3, 4, 5, 8}},
		{"w 5", []api.Given{given(api.CCase, "w", whole(5))}, []int{2, 3, 4, 5}},
		{"x of another category", []api.Given{given(api.CSubject, "x", whole(1)), given(api.CEnv, "x", whole(2))}, []int{2, 3, 4, 5}},
		{"x twice: the first counts", append(x(whole(3)), x(whole(1))...), []int{2, 3, 4, 5}},
		{"x twice: the first counts", append(x(whole(1)), x(whole(3))...), []int{0, 2, 3, 4, 5}},
		{"x twice: the first counts", append(x(), x(whole(1))...), []int{2, 3, 4, 5}},
		{"no attributes", []api.Given{{}, given(9, "x", whole(1)), given(api.CCase, "", whole(1))}, []int{2, 3, 4, 5}},
		{"the last of many", x(append(slices.Repeat([]api.Value{whole(3)}, maxBag-1), whole(2))...), []int{1, 2, 3, 4, 5}},
		{"the last of too many", x(append(slices.Repeat([]api.Value{whole(3)}, 9*maxBag), whole(2))...), []int{1, 2, 3, 4, 5}},
	} {
		picks(t, c.what, s.Kids, c.g, c.want...)
	}
	// Whom the set itself is for doesn't matter.
	picks(t, "a policy that is no set", read(t, "policy p first when (case.x = 1) { permit r when (case.x = 1); }").Kids, x(whole(1)))
}

// truths is a request by which a match that is of each of these names comes to each of the three answers.
func truths() []api.Given {
	return []api.Given{given(api.CCase, "no", whole(2), whole(3)), given(api.CCase, "unknown", text("a"), whole(2)), given(api.CCase, "yes", text("a"), whole(2), whole(1))}
}

// coming is a match that comes to that over truths.
func coming(truth int) api.Match { return is([]string{"no", "unknown", "yes"}[truth], 1) }

func TestTruths(t *testing.T) {
	for truth := range 3 {
		if got := target.Match(coming(truth), truths()); got != truth {
			t.Fatal(truth, got)
		}
	}
}

// The Key alone counts: whatever stands beside it comes to any answer.
func TestKeyAlonePicks(t *testing.T) {
	for key := range 3 {
		for other := range 3 {
			k, o := coming(key), coming(other)
			for what, l := range map[string]api.Target{
				"alone":                  all(k),
				"ahead of another one":   all(k, o),
				"behind one with Must":   all(must(o), k),
				"behind one with MLess":  all(by(api.MLess, o), k),
				"ahead of an AnyOf":      {{{k}}, {{o}}},
				"ahead of a wider one":   {{{k}}, {{o}, {o}}},
				"behind a wider one":     {{{o}, {o}}, {{k}}},
				"behind one without any": {{{must(o), by(api.MMore, o)}}, {{k, o}}},
			} {
				hasKey(t, what, l, k)
				kids := []api.Policy{under(l, simple("p", api.DenyUnless)), under(l, set("s", api.OnlyOne)), {Target: l}}
				want := []int{0, 1, 2}
				if key == 0 {
					want = nil
				}
				picks(t, what, kids, truths(), want...)
				picks(t, what+": nothing known", kids, nil)
			}
			// What has no Key is picked, though its target may be of nobody.
			for what, l := range map[string]api.Target{
				"everybody's":   nil,
				"two AllOfs":    {{{k}, {o}}},
				"Must":          all(must(k), must(o)),
				"MLess":         all(by(api.MLess, k), by(api.MMore, o)),
				"several":       {{{k}, {o}}, {{must(o), by(api.MLess, k)}}, {{o}, {k}}},
				"of nobody":     {{}},
				"without match": {{{}}},
			} {
				noKey(t, what, l)
				picks(t, what, []api.Policy{under(l, simple("p", api.DenyUnless)), under(l, set("s", api.OnlyOne))}, truths(), 0, 1)
				picks(t, what+": nothing known", []api.Policy{under(l, simple("p", api.DenyUnless)), under(l, set("s", api.OnlyOne))}, nil, 0, 1)
			}
		}
	}
}

// All rows of up to five kids: not picked, not known, met, without a Key.
func TestPicksOfAllRows(t *testing.T) {
	for n := range 6 {
		for _, row := range rows([]int{0, 1, 2, 3}, n) {
			var kids []api.Policy
			var want []int
			for i, truth := range row {
				p := simple("p"+strconv.Itoa(i), api.DenyUnless)
				if truth < 3 {
					p.Target = all(coming(truth))
				}
				if truth > 0 {
					want = append(want, i)
				}
				kids = append(kids, p)
			}
			picks(t, "a row", kids, truths(), want...)
		}
	}
}

// None, as many as may be, and more: each alone, and all but each.
func TestPicksAtEachPlace(t *testing.T) {
	picks(t, "none", nil, truths())
	picks(t, "none", []api.Policy{}, truths())
	picks(t, "none, with room", make([]api.Policy, 0, 4), truths())
	for _, most := range []int{1, 2, maxKids, maxKids + 1, 100} {
		for at := range most {
			for truth := 1; truth < 4; truth++ {
				in, out := api.Policy{Id: "in"}, api.Policy{Id: "out", Target: all(coming(0))}
				if truth < 3 {
					in.Target = all(coming(truth))
				}
				kids := slices.Repeat([]api.Policy{out}, most)
				kids[at] = in
				picks(t, "one", kids, truths(), at)

				kids = slices.Repeat([]api.Policy{in}, most)
				kids[at] = out
				var want []int
				for i := range most {
					if i != at {
						want = append(want, i)
					}
				}
				picks(t, "all but one", kids, truths(), want...)
			}
		}
	}
}

// R1: kids of any kind are picked by their targets alone.
func TestPicksOfOddKids(t *testing.T) {
	kids := make([]api.Policy, 3)
	for i := range kids {
		kids[i] = api.Policy{Kids: kids, Target: all(coming(i))}
	}
	picks(t, "that hold themselves", kids, truths(), 1, 2)
	picks(t, "zero", make([]api.Policy, 3), nil, 0, 1, 2)
	picks(t, "the same one twice", []api.Policy{kids[2], kids[2], kids[0], kids[2]}, truths(), 0, 1, 3)
	picks(t, "wrong", []api.Policy{
		{Alg: 99, Target: all(coming(0))}, {Alg: 99, Target: all(coming(2))}, {Set: true, Rules: []api.Rule{{Target: all(coming(0))}}},
		{Target: slices.Repeat(all(coming(0)), 99)}, {Id: strings.Repeat("a", 1<<20), Kids: []api.Policy{{Target: all(coming(0))}}},
	}, truths(), 1, 2, 4)
	picks(t, "of keys that aren't right", []api.Policy{{Target: all(api.Match{Op: api.MEq})}, {Target: all(api.Match{Attr: attr(9, ""), Op: api.MEq, Value: api.Value{Kind: 77}})}}, []api.Given{given(9, "", api.Value{Kind: 77})}, 1)
	many := slices.Repeat([]api.Policy{{Target: all(coming(0))}, {Target: all(coming(2))}}, 1<<15)
	l := index.Pick(many, truths())
	if len(l) != 1<<15 || l[0] != 1 || l[len(l)-1] != 1<<16-1 {
		t.Error(len(l))
	}
}
