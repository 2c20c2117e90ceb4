package index_test

import (
	"math"
	"slices"
	"strconv"
	"strings"
	"testing"

	"bailiff/api"
	"bailiff/index"
)

// P18.1

func TestKeysWrittenOut(t *testing.T) {
	for _, c := range []struct {
		s    string
		want api.Match
	}{
		{"(case.x = 1 or case.y = 2) and (case.z < 3, case.w = 4)", is("w", 4)},
		{"(case.x = 1)", is("x", 1)},
		{"(case.x = 1, case.y = 2)", is("x", 1)},
		{"(case.y = 2, case.x = 1)", is("y", 2)},
		{"(case.x < 1, case.y > 2, case.z = 3, case.w = 4)", is("z", 3)},
		{"(case.x! = 1, case.y = 2)", is("y", 2)},
		{"(case.x! < 1, case.y! = 2, case.z > 3, case.w = 4, case.v! = 5)", is("w", 4)},
		{"(case.x = 1) and (case.y = 2)", is("x", 1)},
		{"(case.x < 1) and (case.y = 2)", is("y", 2)},
		{"(case.x! = 1) and (case.y = 2) and (case.z = 3)", is("y", 2)},
		{"(case.x < 1, case.y! = 2) and (case.z > 3) and (case.w = 4, case.v = 5)", is("w", 4)},
		{"(case.x = 1 or case.x = 1) and (case.y = 2)", is("y", 2)},
		{"(case.x = 1, case.y = 2 or case.z = 3) and (case.x < 1) and (case.w = 4)", is("w", 4)},
		{"(case.x = 1) and (case.y = 2 or case.z = 3)", is("x", 1)},
		{"(case.x = 1, case.x = 2)", is("x", 1)},
		{"(case.x = 2, case.x = 1)", is("x", 2)},
		{"(case.x! = 1, case.x = 1)", is("x", 1)},
		{"(subject.role = #judge)", api.Match{Attr: attr(api.CSubject, "role"), Op: api.MEq, Value: id("judge")}},
		{"(action.name = \"read\")", api.Match{Attr: attr(api.CAction, "name"), Op: api.MEq, Value: text("read")}},
		{"(env.now = @7)", api.Match{Attr: attr(api.CEnv, "now"), Op: api.MEq, Value: tick(7)}},
		{"(case.took = false)", api.Match{Attr: attr(api.CCase, "took"), Op: api.MEq, Value: boolean(0)}},
		{"(case.x = 0)", is("x", 0)},
	} {
		p := read(t, "policy p first when "+c.s+" { permit r when "+c.s+"; }")
		hasKey(t, c.s, p.Target, c.want)
		hasKey(t, c.s, p.Rules[0].Target, c.want)
	}
	for _, s := range []string{
		"(case.x < 1)", "(case.x > 1)", "(case.x! = 1)", "(case.x! < 1)",
		"(case.x = 1 or case.y = 2)", "(case.x = 1 or case.x = 1)", "(case.x = 1, case.y = 2 or case.z < 3)",
		"(case.x < 1, case.y > 2, case.z! = 3)", "(case.x < 1) and (case.y > 2) and (case.z! = 3)",
		"(case.x = 1 or case.y = 2) and (case.z < 3)", "(case.x = 1 or case.y = 2) and (case.x = 1 or case.y = 2 or case.z = 3)",
		"(case.x! = 1) and (case.x = 1 or case.y = 2)",
	} {
		noKey(t, s, read(t, "policy p first when "+s+" { }").Target)
	}
}

// Targets that no right policy has.
func TestKeysOfOddTargets(t *testing.T) {
	k := is("x", 1)
	for what, l := range map[string]api.Target{
		"none":                         nil,
		"no AnyOf":                     {},
		"an AnyOf without an AllOf":    {{}},
		"one that is nil":              {nil},
		"an AllOf without a match":     {{{}}},
		"one that is nil, too":         {{nil}},
		"many of these":                {{}, nil, {{}}, {nil}, {{}, {}}, {nil, nil}},
		"one of two without a match":   {{{k}, {}}},
		"the other one":                {{{}, {k}}},
		"a match that is zero":         all(api.Match{}),
		"one with an attribute alone":  all(api.Match{Attr: k.Attr}),
		"one with a value alone":       all(api.Match{Value: k.Value}),
		"of three AllOfs the same one": {{{k}, {k}, {k}}},
	} {
		noKey(t, what, l)
		hasKey(t, what+", and one behind it", append(slices.Clone(l), all(k)...), k)
		hasKey(t, what+", and one ahead of it", append(all(k), l...), k)
	}
	// What a Key is of needn't be right.
	for _, m := range []api.Match{
		{Op: api.MEq}, {Attr: attr(-1, ""), Op: api.MEq}, {Attr: attr(9, "A b"), Op: api.MEq, Value: api.Value{Kind: 99, N: -5, S: "?"}},
		{Attr: attr(1, strings.Repeat("a", 1<<20)), Op: api.MEq, Value: text(strings.Repeat("\xff", 1<<20))},
		{Attr: attr(math.MinInt, "x"), Op: api.MEq, Value: whole(math.MaxInt)},
	} {
		hasKey(t, "not right", all(m), m)
		hasKey(t, "not right, behind others", api.Target{{{k}, {k}}, {{must(k), by(api.MLess, k), m, k}}}, m)
		noKey(t, "not right, with Must", all(must(m)))
	}
	for _, op := range []int{0, api.MLess, api.MMore, 4, -1, 1<<8 + 1, 1<<16 + 1, 1<<32 + 1, math.MaxInt, math.MinInt, math.MinInt + 1} {
		noKey(t, "another Op", all(by(op, k)))
		hasKey(t, "another Op ahead", all(by(op, k), is("y", 2)), is("y", 2))
	}
}

// Values of each kind, attributes of each category, at the bounds.
func TestKeysOfEachKind(t *testing.T) {
	values := []api.Value{
		boolean(0), boolean(1), whole(math.MinInt), whole(-1), whole(0), whole(math.MaxInt), text(""), text("\x00\xff"), text(strings.Repeat("a", maxText)), tick(0), tick(maxTick), id("a"), id(strings.Repeat("z", maxName)),
	}
	for _, v := range values {
		for cat := api.CSubject; cat <= api.CEnv; cat++ {
			for _, name := range []string{"a", "x_9", strings.Repeat("b", maxName)} {
				m := api.Match{Attr: attr(cat, name), Op: api.MEq, Value: v}
				hasKey(t, "of a kind", all(m), m)
				hasKey(t, "of a kind", all(must(m), m), m)
				noKey(t, "of a kind, with Must", all(must(m)))
				noKey(t, "of a kind, less", all(by(api.MLess, m)))
				noKey(t, "of a kind, more", all(by(api.MMore, m)))
			}
		}
	}
}

// shapes are AnyOfs of each kind; a number tells the matches of one from those of another.
func shapes(n int) [][][]api.Match {
	k, other := is("k"+strconv.Itoa(n), n), is("o"+strconv.Itoa(n), n)
	less, strict := by(api.MLess, k), must(k)
	return [][][]api.Match{
		nil, {nil}, {{k}}, {{less}}, {{strict}}, {{k, other}}, {{less, other}}, {{strict, other}}, {{strict, less}}, {{other, strict, k}},
		{{k}, {k}}, {{k}, {less}}, {{less}, {k}}, {nil, {k}}, {{k}, nil}, {{k}, {other}, {k}},
	}
}

// All rows of up to three AnyOfs of these.
func TestKeysOfAllRows(t *testing.T) {
	found := 0
	for n := range 4 {
		for _, row := range rows([]int{0, 1, 2, 3, 4, 5, 6, 7, 8, 9, 10, 11, 12, 13, 14, 15}, n) {
			var l api.Target
			for i, shape := range row {
				l = append(l, shapes(i)[shape])
			}
			want, ok := keyByTheWords(l)
			if !ok {
				noKey(t, "a row", l)
				continue
			}
			found++
			hasKey(t, "a row", l, want)
		}
	}
	// Five of the sixteen have a Key.
	if want := 16 + 256 + 4096 - 11 - 121 - 1331; found != want {
		t.Error(found, want)
	}
}

// At each place of an AllOf and of a target that are as long as may be, and of longer ones.
func TestKeysAtEachPlace(t *testing.T) {
	k := is("k", 1)
	for _, most := range []int{maxMatch, 100} {
		for at := range most {
			for _, other := range []api.Match{by(api.MLess, k), by(api.MMore, k), must(k), {}} {
				l := slices.Repeat([]api.Match{other}, most)
				l[at] = k
				hasKey(t, "of an AllOf", all(l...), k)
				for behind := at + 1; behind < most; behind++ {
					l[behind] = is("b", behind)
				}
				hasKey(t, "the first of an AllOf", all(l...), k)
			}
			for _, other := range shapes(0) {
				if _, ok := index.Key(api.Target{other}); ok {
					continue
				}
				l := slices.Repeat(api.Target{other}, most)
				l[at] = [][]api.Match{{k}}
				hasKey(t, "of a target", l, k)
				for behind := at + 1; behind < most; behind++ {
					l[behind] = [][]api.Match{{is("b", behind)}}
				}
				hasKey(t, "the first of a target", l, k)
			}
		}
	}
	for n := 2; n <= maxMatch+1; n++ {
		noKey(t, "more AllOfs", api.Target{slices.Repeat([][]api.Match{{k}}, n)})
	}
}

// R1: long ones are at their end.
func TestLongTargets(t *testing.T) {
	k, less := is("k", 1), by(api.MLess, is("x", 1))
	hasKey(t, "long", api.Target{{append(slices.Repeat([]api.Match{less}, 1<<20), k)}}, k)
	hasKey(t, "long", append(slices.Repeat(all(less), 1<<20), all(k)...), k)
	hasKey(t, "long", api.Target{slices.Repeat([][]api.Match{{k}}, 1<<20), {{k}}}, k)
	noKey(t, "long", api.Target{slices.Repeat([][]api.Match{{k}}, 1<<20)})
}
