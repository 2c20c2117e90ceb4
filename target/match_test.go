package target_test

import (
	"cmp"
	"math"
	"slices"
	"strings"
	"testing"

	"bailiff/api"
	"bailiff/target"
)

// P13.1

func TestTheRuns(t *testing.T) {
	one := of(api.MEq, whole(1))
	matches(t, "no x", one, nil, 0)
	matches(t, "x 2 1", one, x(wholes(2, 1)...), 2)
	matches(t, `x "a"`, one, x(text("a")), 1)
	matches(t, "x! of no x", strict(one), nil, 1)
}

// Each Op of a few, written out.
func TestMatchesWrittenOut(t *testing.T) {
	five := whole(5)
	for _, c := range []struct {
		what           string
		bag            []api.Value
		eq, less, more int
	}{
		{"one below", wholes(4), 0, 2, 0},
		{"one that is the same", wholes(5), 2, 0, 0},
		{"one above", wholes(6), 0, 0, 2},
		{"below and above", wholes(4, 6), 0, 2, 2},
		{"above and below", wholes(6, 4), 0, 2, 2},
		{"the same and above", wholes(5, 6), 2, 0, 2},
		{"below and the same", wholes(4, 5), 2, 2, 0},
		{"several below", wholes(1, 2, 3), 0, 2, 0},
		{"twice the same", wholes(5, 5), 2, 0, 0},
		{"as a text", []api.Value{text("5")}, 1, 1, 1},
		{"as a tick", []api.Value{tick(4)}, 1, 1, 1},
		{"a text, and below", []api.Value{text("5"), whole(4)}, 1, 2, 1},
		{"below, and a text", []api.Value{whole(4), text("5")}, 1, 2, 1},
		{"a text, and the same", []api.Value{text("5"), five}, 2, 1, 1},
		{"the same, and a text", []api.Value{five, text("5")}, 2, 1, 1},
		{"a text, and above", []api.Value{text("5"), whole(6)}, 1, 1, 2},
		{"above, and a text", []api.Value{whole(6), text("5")}, 1, 1, 2},
	} {
		both(t, c.what, of(api.MEq, five), x(c.bag...), c.eq)
		both(t, c.what, of(api.MLess, five), x(c.bag...), c.less)
		both(t, c.what, of(api.MMore, five), x(c.bag...), c.more)
		for _, op := range otherOps() {
			both(t, c.what, of(op, five), x(c.bag...), c.more)
		}
	}
}

// Whatever the Op and the Value: an attribute without values is not met, and if it must be there, not known.
func TestNothingGiven(t *testing.T) {
	requests := [][]api.Given{
		nil, {}, x(), {{Cat: api.CCase, Name: "x", Bag: []api.Value{}}}, x(whole(1))[:0],
		{given(api.CCase, "y", whole(1)), given(api.CEnv, "x", whole(1)), given(api.CCase, "xx", whole(1))},
		{given(api.CCase, "x"), given(api.CCase, "x", whole(1))},
		known(),
	}
	for _, g := range requests {
		for _, op := range ops() {
			for _, v := range append(slices.Concat(likes()...), badValues()...) {
				matches(t, "nothing given", of(op, v), g, 0)
				matches(t, "nothing given, with Must", strict(of(op, v)), g, 1)
			}
		}
	}
}

// Each right value against each, by their places among those of their kind.
func TestEachOfEach(t *testing.T) {
	for i, these := range likes() {
		for k, v := range these {
			for j, those := range likes() {
				for l, w := range those {
					held(t, v, w, i == j, cmp.Compare(k, l))
				}
			}
		}
	}
}

// held asks it of one value in the bag, v, and of the match's, w; order is of v, below 0, if it stands ahead.
func held(t *testing.T, v, w api.Value, kind bool, order int) {
	t.Helper()
	eq, less, more := 0, 0, 0
	switch {
	case !kind:
		eq = 1
	case order == 0:
		eq = 2
	case order < 0:
		less = 2
	case order > 0:
		more = 2
	}
	if !kind || v.Kind == api.KBool {
		less, more = 1, 1
	}
	both(t, "held", of(api.MEq, w), x(v), eq)
	both(t, "held", of(api.MLess, w), x(v), less)
	both(t, "held", of(api.MMore, w), x(v), more)
	for _, op := range otherOps() {
		both(t, "held", of(op, w), x(v), more)
	}
}

// Wrong values: to MEq the kind and the sameness alone count, to the others they can't be held at all.
func TestValuesThatAreNotRight(t *testing.T) {
	values := append(slices.Concat(likes()...), badValues()...)
	for _, bad := range badValues() {
		for _, v := range values {
			eq := 1
			if v == bad {
				eq = 2
			} else if v.Kind == bad.Kind {
				eq = 0
			}
			both(t, "wrong in the bag", of(api.MEq, v), x(bad), eq)
			both(t, "wrong in the match", of(api.MEq, bad), x(v), eq)
			for _, op := range ops()[1:] {
				both(t, "wrong in the bag", of(op, v), x(bad), 1)
				both(t, "wrong in the match", of(op, bad), x(v), 1)
			}
		}
	}
	for _, op := range ops()[1:] {
		both(t, "wrong, and the same kind, that would be less", of(op, tick(5)), x(tick(-1)), 1)
		both(t, "wrong, and the same kind, that would be more", of(op, tick(5)), x(tick(maxTick+1)), 1)
	}
	both(t, "wrong, and one below", of(api.MLess, tick(5)), x(tick(-1), tick(4)), 2)
	both(t, "one above, and wrong", of(api.MMore, tick(5)), x(tick(6), tick(-1)), 2)
	both(t, "wrong, of that kind, and the same", of(api.MEq, tick(5)), x(tick(-1), tick(5)), 2)
	both(t, "wrong, of that kind, and another", of(api.MEq, tick(5)), x(tick(-1), tick(4)), 0)
}

// Truths are the same or not, and stand in no order.
func TestTruths(t *testing.T) {
	for _, v := range likes()[0] {
		for _, bag := range [][]api.Value{{boolean(0)}, {boolean(1)}, {boolean(0), boolean(1)}, {boolean(1), boolean(1), boolean(0)}} {
			eq := 0
			if slices.Contains(bag, v) {
				eq = 2
			}
			both(t, "a truth", of(api.MEq, v), x(bag...), eq)
			for _, op := range ops()[1:] {
				both(t, "a truth in order", of(op, v), x(bag...), 1)
			}
		}
	}
}

func TestNumbersAtTheEnds(t *testing.T) {
	both(t, "less than the least", of(api.MLess, whole(math.MinInt)), x(wholes(math.MinInt, 0, math.MaxInt)...), 0)
	both(t, "more than the least", of(api.MMore, whole(math.MinInt)), x(wholes(math.MinInt, math.MinInt+1)...), 2)
	both(t, "more than the greatest", of(api.MMore, whole(math.MaxInt)), x(wholes(math.MinInt, 0, math.MaxInt)...), 0)
	both(t, "less than the greatest", of(api.MLess, whole(math.MaxInt)), x(wholes(math.MaxInt, math.MaxInt-1)...), 2)
	both(t, "the least, less than the greatest", of(api.MLess, whole(math.MaxInt)), x(whole(math.MinInt)), 2)
	both(t, "the least, not more than the greatest", of(api.MMore, whole(math.MaxInt)), x(whole(math.MinInt)), 0)
	both(t, "the greatest, more than the least", of(api.MMore, whole(math.MinInt)), x(whole(math.MaxInt)), 2)
	both(t, "the greatest, not less than the least", of(api.MLess, whole(math.MinInt)), x(whole(math.MaxInt)), 0)
	both(t, "the same one", of(api.MEq, whole(math.MinInt)), x(whole(math.MinInt)), 2)
	both(t, "one that is like it", of(api.MEq, whole(math.MinInt)), x(wholes(0, math.MaxInt)...), 0)
	both(t, "no tick is less", of(api.MLess, tick(0)), x(tick(0), tick(maxTick)), 0)
	both(t, "no tick is more", of(api.MMore, tick(maxTick)), x(tick(0), tick(maxTick)), 0)
}

func TestTextsThatBeginEachOther(t *testing.T) {
	l := []string{"", "a", "aa", "aaa", strings.Repeat("a", 15), strings.Repeat("a", maxText-1), strings.Repeat("a", maxText)}
	for i, s := range l {
		for k, r := range l {
			held(t, text(s), text(r), true, cmp.Compare(i, k))
			if s != "" && r != "" && len(s) <= 16 && len(r) <= 16 {
				held(t, id(s), id(r), true, cmp.Compare(i, k))
				held(t, text(s), id(r), false, 0)
				held(t, id(s), text(r), false, 0)
			}
		}
	}
}

// The one value that isn't 5 stands at each place of a bag of one to as many values as may be, and of more.
func TestEachPlaceOfABag(t *testing.T) {
	for _, n := range []int{1, 2, 3, maxBag - 1, maxBag, maxBag + 1, 300} {
		for at := range n {
			for _, c := range []struct {
				what           string
				v              api.Value
				eq, less, more int
			}{
				{"one is the same as they", whole(5), 0, 0, 0},
				{"one is less", whole(4), 0, 2, 0},
				{"one is more", whole(6), 2, 0, 2},
				{"one is a text", text("6"), 1, 1, 1},
				{"one is a tick", tick(6), 1, 1, 1},
				{"one is a truth", boolean(1), 1, 1, 1},
				{"one is of no kind", api.Value{N: 6}, 1, 1, 1},
				{"one is not right", api.Value{Kind: api.KInt, N: 6, S: "x"}, 0, 1, 1},
			} {
				bag := slices.Repeat(wholes(5), n)
				bag[at] = c.v
				both(t, c.what, of(api.MEq, whole(6)), x(bag...), c.eq)
				both(t, c.what, of(api.MLess, whole(5)), x(bag...), c.less)
				both(t, c.what, of(api.MMore, whole(5)), x(bag...), c.more)
			}
		}
	}
}

// One value is met and another one can't be held against Value, at each two places; among as many more or none.
func TestMetBesideWhatCannotBeHeld(t *testing.T) {
	for _, odd := range []api.Value{text("5"), tick(5), boolean(1), id("a"), {}, {Kind: 6, N: 5}} {
		for _, n := range []int{2, 3, maxBag} {
			for i := range n {
				for k := range n {
					if i == k {
						continue
					}
					bag := slices.Repeat(wholes(5), n)
					bag[i], bag[k] = odd, whole(4)
					both(t, "one is the same", of(api.MEq, whole(4)), x(bag...), 2)
					both(t, "none is the same", of(api.MEq, whole(3)), x(bag...), 1)
					both(t, "one is less", of(api.MLess, whole(5)), x(bag...), 2)
					both(t, "none is less", of(api.MLess, whole(4)), x(bag...), 1)
					both(t, "none is more", of(api.MMore, whole(5)), x(bag...), 1)
					bag[k] = whole(6)
					both(t, "one is more", of(api.MMore, whole(5)), x(bag...), 2)
				}
			}
		}
	}
}

// Which attribute a match is of: the first of its category and its name.
func TestWhichAttribute(t *testing.T) {
	var l []api.Given
	names := []string{"a", "aa", "a0", "ab", "b"}
	for cat := api.CSubject; cat <= api.CEnv; cat++ {
		for i, name := range names {
			l = append(l, given(cat, name, whole(10*cat+i)))
		}
	}
	l = append(l, l...)
	for i := range l[len(l)/2:] {
		l[len(l)/2+i].Bag = wholes(99)
	}
	for cat := api.CSubject; cat <= api.CEnv; cat++ {
		for i, name := range names {
			for _, op := range ops()[:3] {
				for _, n := range []int{10*cat + i, 99} {
					m := api.Match{Attr: attr(cat, name), Op: op, Value: whole(n)}
					want := 0
					if op == api.MEq && n != 99 || op == api.MLess && n == 99 {
						want = 2
					}
					both(t, "one of like ones", m, l, want)
				}
			}
		}
	}
	for _, a := range []api.Attr{attr(0, "a"), attr(5, "a"), attr(-1, "a"), attr(1, ""), attr(1, "A"), attr(1, "aaa"), attr(1, "a "), attr(1<<32+1, "a")} {
		m := api.Match{Attr: a, Op: api.MEq, Value: whole(10)}
		matches(t, "no such one", m, l, 0)
		matches(t, "no such one, with Must", strict(m), l, 1)
		both(t, "wrong, and found", m, append(l, given(a.Cat, a.Name, whole(10))), 2)
	}
	matches(t, "zero", api.Match{}, nil, 0)
	matches(t, "zero of zero", api.Match{}, []api.Given{{}}, 0)
	matches(t, "zero of a value", api.Match{}, []api.Given{{Bag: []api.Value{{}}}}, 1)
	matches(t, "zero, and the same", api.Match{Op: api.MEq}, []api.Given{{Bag: []api.Value{{}}}}, 2)
}

// MEq is of either way round; what is less than Value is what Value is more than.
func TestTheOtherWayRound(t *testing.T) {
	values := append(slices.Concat(likes()...), badValues()...)
	for _, v := range values {
		for _, w := range values {
			both(t, "the same", of(api.MEq, w), x(v), target.Match(of(api.MEq, v), x(w)))
			both(t, "less", of(api.MLess, w), x(v), target.Match(of(api.MMore, v), x(w)))
		}
	}
}
