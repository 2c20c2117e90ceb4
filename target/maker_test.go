package target_test

import (
	"math"
	"slices"
	"strings"
	"testing"

	"bailiff/api"
	"bailiff/target"
)

// The limits as the document's page has them.
const (
	maxText  = 64
	maxBag   = 16
	maxMatch = 8
	maxTick  = 1 << 40
)

func boolean(n int) api.Value { return api.Value{Kind: api.KBool, N: n} }
func whole(n int) api.Value   { return api.Value{Kind: api.KInt, N: n} }
func text(s string) api.Value { return api.Value{Kind: api.KText, S: s} }
func tick(n int) api.Value    { return api.Value{Kind: api.KTick, N: n} }
func id(s string) api.Value   { return api.Value{Kind: api.KId, S: s} }

func wholes(l ...int) []api.Value {
	var bag []api.Value
	for _, n := range l {
		bag = append(bag, whole(n))
	}
	return bag
}

// likes are some values of each kind, those at the ends among them; they rise.
func likes() [][]api.Value {
	return [][]api.Value{
		{boolean(0), boolean(1)},
		{whole(math.MinInt), whole(math.MinInt + 1), whole(-7), whole(-1), whole(0), whole(1), whole(7), whole(1 << 40), whole(math.MaxInt - 1), whole(math.MaxInt)},
		{text(""), text("\x00"), text("10"), text("2"), text("B"), text("a"), text("a\x00"), text("aa"), text("ab"), text("b"), text("\xff"), text(strings.Repeat("\xff", maxText-1)), text(strings.Repeat("\xff", maxText))},
		{tick(0), tick(1), tick(2), tick(10), tick(maxTick - 1), tick(maxTick)},
		{id("a"), id("a0"), id("a_"), id("aa"), id("aaaaaaaaaaaaaaa"), id("aaaaaaaaaaaaaaaa"), id("ab"), id("b"), id("true")},
	}
}

// badValues are wrong each for a reason of its own, of each kind and of none.
func badValues() []api.Value {
	return []api.Value{
		{}, {N: 1}, {S: "a"}, {Kind: 6}, {Kind: 6, N: 1}, {Kind: -1}, {Kind: 1<<32 + api.KInt, N: 1},
		boolean(2), boolean(-1), {Kind: api.KBool, S: "x"}, {Kind: api.KBool, N: 1, S: "x"}, {Kind: api.KInt, S: "x"}, {Kind: api.KInt, N: 1, S: "x"},
		{Kind: api.KText, N: 1}, text(strings.Repeat("a", maxText+1)), tick(-1), tick(maxTick + 1), {Kind: api.KTick, S: "x"},
		id(""), id("Ann"), id("abcdefghijklmnopq"), {Kind: api.KId, S: "a", N: 1},
	}
}

func given(cat int, name string, bag ...api.Value) api.Given {
	return api.Given{Cat: cat, Name: name, Bag: bag}
}

// x is a request of case.x alone.
func x(bag ...api.Value) []api.Given { return []api.Given{given(api.CCase, "x", bag...)} }

func attr(cat int, name string) api.Attr { return api.Attr{Cat: cat, Name: name} }
func must(cat int, name string) api.Attr { return api.Attr{Cat: cat, Name: name, Must: true} }

// of is a match of case.x.
func of(op int, v api.Value) api.Match {
	return api.Match{Attr: attr(api.CCase, "x"), Op: op, Value: v}
}

// strict is the same match of case.x!.
func strict(m api.Match) api.Match {
	m.Attr.Must = true
	return m
}

// otherOps are none of the named ones; some would be if they were cut short or turned round.
func otherOps() []int {
	return []int{0, 4, 5, -1, -2, -3, 1<<8 + 1, 1<<8 + 2, 1<<16 + 1, 1<<32 + 1, 1<<32 + 2, math.MaxInt, math.MinInt, math.MinInt + 1, math.MinInt + 2}
}

func ops() []int { return append([]int{api.MEq, api.MLess, api.MMore}, otherOps()...) }

// What is asked of a match, an AllOf, a target

func matches(t *testing.T, what string, m api.Match, g []api.Given, want int) {
	t.Helper()
	if got := target.Match(m, g); got != want {
		t.Fatalf("%s: %+v of %+v: %d, not %d", what, m, g, got, want)
	}
}

// both asks it with Must, too: that matters only where the bag is empty.
func both(t *testing.T, what string, m api.Match, g []api.Given, want int) {
	t.Helper()
	m.Attr.Must = false
	matches(t, what, m, g, want)
	matches(t, what+", with Must", strict(m), g, want)
}

// all asks it of an AllOf, and of a target of that alone.
func all(t *testing.T, what string, l []api.Match, g []api.Given, want int) {
	t.Helper()
	if got := target.All(l, g); got != want {
		t.Fatalf("%s: %+v of %+v: %d, not %d", what, l, g, got, want)
	}
	met(t, what+", as a target", api.Target{{l}}, g, want)
}

func met(t *testing.T, what string, l api.Target, g []api.Given, want int) {
	t.Helper()
	if got := target.Met(l, g); got != want {
		t.Fatalf("%s: %+v of %+v: %d, not %d", what, l, g, got, want)
	}
}

// known is a request over which matches come to each of the three truths.
func known() []api.Given {
	return []api.Given{
		given(api.CSubject, "role", id("clerk"), id("judge")),
		given(api.CCase, "due", tick(5)),
		given(api.CCase, "none"),
		given(api.CEnv, "odd", text("a"), whole(1), boolean(1)),
	}
}

// thatAre are matches that come to 0, 1 or 2 over known, in each way in which they can.
func thatAre(truth int) []api.Match {
	role, due, odd := attr(api.CSubject, "role"), attr(api.CCase, "due"), attr(api.CEnv, "odd")
	return [][]api.Match{
		{
			{Attr: role, Op: api.MEq, Value: id("admin")},
			{Attr: due, Op: api.MLess, Value: tick(5)},
			{Attr: due, Op: api.MMore, Value: tick(5)},
			{Attr: attr(api.CCase, "none"), Op: api.MEq, Value: whole(1)},
			{Attr: attr(api.CCase, "other"), Op: api.MLess, Value: boolean(1)},
		},
		{
			{Attr: must(api.CCase, "none"), Op: api.MEq, Value: whole(1)},
			{Attr: must(api.CAction, "other"), Op: api.MMore, Value: whole(1)},
			{Attr: role, Op: api.MEq, Value: text("clerk")},
			{Attr: odd, Op: api.MEq, Value: whole(2)},
			{Attr: odd, Op: api.MLess, Value: boolean(1)},
		},
		{
			{Attr: role, Op: api.MEq, Value: id("judge")},
			{Attr: due, Op: api.MLess, Value: tick(6)},
			{Attr: due, Op: api.MMore, Value: tick(4)},
			{Attr: odd, Op: api.MMore, Value: whole(0)},
			{Attr: odd, Op: api.MEq, Value: boolean(1)},
		},
	}[truth]
}

// What must come of it, by the words of P13.2, and without least and greatest

func ofAll(truths []int) int {
	switch {
	case slices.Contains(truths, 0):
		return 0
	case slices.Contains(truths, 1):
		return 1
	}
	return 2
}

func ofAny(truths []int) int {
	switch {
	case slices.Contains(truths, 2):
		return 2
	case slices.Contains(truths, 1):
		return 1
	}
	return 0
}

// ofTarget is of a target that is written as what its matches come to.
func ofTarget(t [][][]int) int {
	var l []int
	for _, anyOf := range t {
		var alls []int
		for _, allOf := range anyOf {
			alls = append(alls, ofAll(allOf))
		}
		l = append(l, ofAny(alls))
	}
	return ofAll(l)
}

// Mixed things, the same each time

type maker struct{ x uint64 }

func (m *maker) n(below int) int {
	m.x = m.x*6364136223846793005 + 1442695040888963407
	return int(m.x >> 33 % uint64(below))
}

func pick[T any](m *maker, l []T) T { return l[m.n(len(l))] }

// value is mostly a number or a text of few, so that some are met and some stand in order.
func (m *maker) value() api.Value {
	switch m.n(24) {
	case 0:
		return pick(m, badValues())
	case 1, 2, 3:
		return pick(m, pick(m, likes()))
	case 4, 5, 6:
		return text(pick(m, []string{"", "a", "aa", "b"}))
	}
	return whole(m.n(4))
}

func (m *maker) attr() api.Attr {
	return api.Attr{Cat: 1 + m.n(2), Name: pick(m, []string{"x", "xx"}), Must: m.n(3) == 0}
}

func (m *maker) match() api.Match {
	return api.Match{Attr: m.attr(), Op: pick(m, []int{api.MEq, api.MEq, api.MLess, api.MMore, 0, -1}), Value: m.value()}
}

// request may have an attribute twice, and bags of several kinds.
func (m *maker) request() []api.Given {
	var l []api.Given
	for range m.n(6) {
		a := m.attr()
		g := given(a.Cat, a.Name)
		for range pick(m, []int{0, 1, 1, 1, 2, 3, maxBag}) {
			g.Bag = append(g.Bag, m.value())
		}
		l = append(l, g)
	}
	return l
}

func (m *maker) allOf(most int) []api.Match {
	var l []api.Match
	for range m.n(most + 1) {
		l = append(l, m.match())
	}
	return l
}

func (m *maker) anyOf(most int) [][]api.Match {
	var l [][]api.Match
	for range m.n(most + 1) {
		l = append(l, m.allOf(most))
	}
	return l
}

func (m *maker) target(most int) api.Target {
	var t api.Target
	for range m.n(most + 1) {
		t = append(t, m.anyOf(most))
	}
	return t
}
