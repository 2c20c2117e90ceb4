package ask_test

import (
	"math"
	"slices"
	"strconv"
	"strings"
	"testing"

	"bailiff/api"
)

// The limits as the document's pages have them.
const (
	maxAttrs = 64
	maxName  = 16
	maxText  = 64
	maxBag   = 16
	maxTick  = 1 << 40
)

func boolean(n int) api.Value { return api.Value{Kind: api.KBool, N: n} }
func whole(n int) api.Value   { return api.Value{Kind: api.KInt, N: n} }
func text(s string) api.Value { return api.Value{Kind: api.KText, S: s} }
func tick(n int) api.Value    { return api.Value{Kind: api.KTick, N: n} }
func id(s string) api.Value   { return api.Value{Kind: api.KId, S: s} }

func attr(cat int, name string) api.Attr { return api.Attr{Cat: cat, Name: name} }
func must(cat int, name string) api.Attr { return api.Attr{Cat: cat, Name: name, Must: true} }

func given(cat int, name string, bag ...api.Value) api.Given {
	return api.Given{Cat: cat, Name: name, Bag: bag}
}

func wholes(l ...int) []api.Value {
	var bag []api.Value
	for _, n := range l {
		bag = append(bag, whole(n))
	}
	return bag
}

func cats() []int { return []int{api.CSubject, api.CAction, api.CCase, api.CEnv} }

// badCats are just below and above those that are, and far ones that would lie between if they were cut short or turned round.
func badCats() []int {
	l := []int{0, 5, 6, -1, -2, -4, math.MaxInt, math.MinInt, math.MinInt + 1}
	for _, k := range []int{8, 16, 32} {
		l = append(l, 1<<k+1, 1<<k+4, 1-1<<k)
	}
	return l
}

func goodNames() []string {
	return []string{"a", "x", "z", "ann", "a_9", "z__", "x0", "true", "id", "role", "abcdefghijklmnop", "z" + strings.Repeat("9", maxName-1)}
}

func badNames() []string {
	return []string{"", "A", "Ann", "aB", "9a", "9", "_", "_a", "a-b", "a b", " a", "a ", "a.b", "#a", "a!", "a\x00", "ä", "aä", "abcdefghijklmnopq", strings.Repeat("a", 1<<16)}
}

// likes are some values of each kind.
func likes() [][]api.Value {
	return [][]api.Value{
		{boolean(0), boolean(1)},
		{whole(0), whole(1), whole(-1), whole(-7), whole(64), whole(math.MinInt), whole(math.MaxInt)},
		{text(""), text("a"), text("1"), text("true"), text("\x00"), text(`"`), text(strings.Repeat("\xff", maxText))},
		{tick(0), tick(1), tick(5), tick(64), tick(maxTick)},
		{id("a"), id("true"), id("ann"), id("abcdefghijklmnop")},
	}
}

// badValues are wrong each for a reason of its own.
func badValues() []api.Value {
	return []api.Value{
		{}, {N: 1}, {S: "a"}, {Kind: 6}, {Kind: -1}, boolean(2), boolean(-1), {Kind: api.KBool, S: "x"}, {Kind: api.KInt, S: "x"},
		{Kind: api.KText, N: 1}, text(strings.Repeat("a", maxText+1)), tick(-1), tick(maxTick + 1), {Kind: api.KTick, S: "x"},
		id(""), id("Ann"), id("abcdefghijklmnopq"), {Kind: api.KId, S: "a", N: 1},
	}
}

// goodBags are empty, or of one, some, or as many as may be of one kind.
func goodBags() [][]api.Value {
	l := [][]api.Value{nil, {}}
	for _, like := range likes() {
		l = append(l, like, slices.Repeat(like, maxBag)[:maxBag])
		for _, v := range like {
			l = append(l, []api.Value{v}, []api.Value{v, v})
		}
	}
	return l
}

// badBags are too many values, or of two kinds, or one of them isn't right, at each place.
func badBags() [][]api.Value {
	l := [][]api.Value{slices.Repeat([]api.Value{whole(1)}, 1<<16)}
	for i, like := range likes() {
		other := likes()[(i+1)%5][0]
		l = append(l, slices.Repeat(like, maxBag+1)[:maxBag+1], []api.Value{like[0], other}, []api.Value{other, like[0]})
		last := slices.Repeat(like[:1], maxBag)
		last[maxBag-1] = other
		l = append(l, last)
	}
	for _, bad := range badValues() {
		l = append(l, []api.Value{bad})
		for place := range 3 {
			bag := wholes(1, 2, 3)
			bag[place] = bad
			l = append(l, bag)
		}
	}
	return l
}

// many are so many right attributes, no two of one category and name.
func many(n int) []api.Given {
	l, bags := []api.Given{}, goodBags()
	for i := range n {
		l = append(l, given(1+i%4, "n"+strconv.Itoa(i/4), bags[i%len(bags)]...))
	}
	return l
}

// next is a row of numbers that is the same each time.
func next(x *uint64, below int) int {
	*x = *x*6364136223846793005 + 1442695040888963407
	return int(*x >> 33 % uint64(below))
}

// maker makes mixed things.
type maker struct{ x uint64 }

func (m *maker) n(below int) int { return next(&m.x, below) }

func pick[T any](m *maker, l []T) T { return l[m.n(len(l))] }

// few are attributes' names of which some begin others, or differ in little.
func few() []string { return []string{"a", "aa", "a0", "a_", "ab", "b", "ba"} }

func (m *maker) bag() []api.Value {
	like := pick(m, likes())
	var bag []api.Value
	for range m.n(4) {
		bag = append(bag, pick(m, like))
	}
	return bag
}

func (m *maker) given() api.Given { return given(pick(m, cats()), pick(m, few()), m.bag()...) }

// mixed may have attributes of one category and name.
func (m *maker) mixed(most int) []api.Given {
	var l []api.Given
	for range m.n(most + 1) {
		l = append(l, m.given())
	}
	return l
}

// right has none of one category and name.
func (m *maker) right(most int) []api.Given {
	var l []api.Given
	for _, g := range m.mixed(most) {
		if !slices.ContainsFunc(l, func(h api.Given) bool { return h.Cat == g.Cat && h.Name == g.Name }) {
			l = append(l, g)
		}
	}
	return l
}

// shuffled is the same in another order.
func (m *maker) shuffled(l []api.Given) []api.Given {
	out := slices.Clone(l)
	for i := range out {
		k := i + m.n(len(out)-i)
		out[i], out[k] = out[k], out[i]
	}
	return out
}

// same holds nil and empty lists for the same.
func same(a, b api.Given) bool {
	return a.Cat == b.Cat && a.Name == b.Name && slices.Equal(a.Bag, b.Bag)
}

// are asks whether a request is the one that is wanted.
func are(t *testing.T, what string, got, want []api.Given) {
	t.Helper()
	if !slices.EqualFunc(got, want, same) {
		t.Fatalf("%s: %+v, not %+v", what, got, want)
	}
}
