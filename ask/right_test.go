package ask_test

import (
	"regexp"
	"slices"
	"strconv"
	"strings"
	"testing"

	"bailiff/api"
	"bailiff/ask"
)

// P11.1

func is(t *testing.T, what string, got, want api.Errno) {
	t.Helper()
	if got != want {
		t.Fatalf("%s: error %d, not %d", what, got, want)
	}
}

func TestNoAttributes(t *testing.T) {
	is(t, "nil", ask.Right(nil), api.OK)
	is(t, "empty", ask.Right([]api.Given{}), api.OK)
	is(t, "empty, with room behind", ask.Right(make([]api.Given, 70)[:0]), api.OK)
}

func TestOneAttribute(t *testing.T) {
	for _, cat := range cats() {
		for _, name := range goodNames() {
			for _, bag := range goodBags() {
				is(t, "one attribute", ask.Right([]api.Given{given(cat, name, bag...)}), api.OK)
			}
		}
	}
}

// wrongOnes are wrong each in one field alone, but for the last ones.
func wrongOnes() []api.Given {
	var l []api.Given
	for _, cat := range badCats() {
		l = append(l, given(cat, "w"), given(cat, "w", whole(1)))
	}
	for _, name := range badNames() {
		l = append(l, given(api.CSubject, name), given(api.CEnv, name, id("a")))
	}
	for _, bag := range badBags() {
		l = append(l, given(api.CAction, "w", bag...))
	}
	return append(l, api.Given{}, given(0, "", api.Value{}), given(5, "W"))
}

func TestWrongOnesAtEachPlace(t *testing.T) {
	for _, bad := range wrongOnes() {
		for _, n := range []int{1, 2, 3, 7, maxAttrs} {
			for place := range n {
				l := many(n)
				l[place] = bad
				is(t, "a wrong one at "+strconv.Itoa(place), ask.Right(l), api.ErrArg)
			}
		}
	}
	for n := -300; n <= 300; n++ {
		want := api.ErrArg
		if slices.Contains(cats(), n) {
			want = api.OK
		}
		is(t, "Cat "+strconv.Itoa(n), ask.Right([]api.Given{given(n, "a")}), want)
	}
}

func TestCounts(t *testing.T) {
	for n := range 300 {
		limited(t, n)
	}
	for _, n := range []int{1 << 16, 1<<16 + 1, 1<<16 + maxAttrs} {
		limited(t, n)
	}
}

// limited asks for n attributes: unlike ones, the same one, and none that is right.
func limited(t *testing.T, n int) {
	t.Helper()
	unlike, alike, none := api.OK, api.OK, api.OK
	if n > 0 {
		none = api.ErrArg
	}
	if n > 1 {
		alike = api.ErrThere
	}
	if n > maxAttrs {
		unlike, alike, none = api.ErrLimit, api.ErrLimit, api.ErrLimit
	}
	is(t, strconv.Itoa(n)+" attributes", ask.Right(many(n)), unlike)
	is(t, strconv.Itoa(n)+" of one attribute", ask.Right(slices.Repeat([]api.Given{given(1, "a")}, n)), alike)
	is(t, strconv.Itoa(n)+" of nothing", ask.Right(make([]api.Given, n)), none)
	is(t, strconv.Itoa(n)+", with room behind", ask.Right(many(n + 70)[:n]), unlike)
}

func TestTooManyAheadOfAll(t *testing.T) {
	for place := range maxAttrs + 1 {
		for _, bad := range []api.Given{{}, given(0, "a"), given(1, "A"), given(1, "a", whole(1), tick(1)), many(maxAttrs + 1)[(place+9)%(maxAttrs+1)]} {
			l := many(maxAttrs + 1)
			l[place] = bad
			is(t, "a wrong one among too many", ask.Right(l), api.ErrLimit)
		}
	}
}

func TestCategoriesAndNames(t *testing.T) {
	var all []api.Given
	for _, cat := range cats() {
		for _, name := range append(goodNames(), few()...) {
			if !slices.ContainsFunc(all, func(g api.Given) bool { return g.Cat == cat && g.Name == name }) {
				all = append(all, given(cat, name, whole(len(all))))
			}
		}
	}
	for i, a := range all {
		for k, b := range all {
			want := api.OK
			if i == k {
				want = api.ErrThere
			}
			is(t, "two", ask.Right([]api.Given{a, b}), want)
			b.Bag = []api.Value{id("other")}
			is(t, "two of unlike bags", ask.Right([]api.Given{a, b}), want)
		}
	}
}

func TestNamesThatBeginOneAnother(t *testing.T) {
	var l []api.Given
	for n := 1; n <= maxName; n++ {
		for _, cat := range cats() {
			l = append(l, given(cat, strings.Repeat("a", n)))
		}
	}
	if len(l) != maxAttrs {
		t.Fatal(len(l))
	}
	is(t, "rising", ask.Right(l), api.OK)
	slices.Reverse(l)
	is(t, "falling", ask.Right(l), api.OK)
}

func TestTwoOfOneCategoryAndName(t *testing.T) {
	for _, n := range []int{2, 3, 9, maxAttrs} {
		for i := range n {
			for k := i + 1; k < n; k++ {
				l := many(n)
				l[k].Cat, l[k].Name = l[i].Cat, strings.Clone(l[i].Name)
				is(t, "twice", ask.Right(l), api.ErrThere)
				l[k].Bag = []api.Value{tick(7)}
				is(t, "twice, with unlike bags", ask.Right(l), api.ErrThere)
			}
		}
	}
}

// One that is wrong and there already is wrong; of two wrong ones the first is told.
func TestTheFirstThatIsWrong(t *testing.T) {
	const n = 9
	bad := []api.Given{{}, given(0, "a"), given(5, "a"), given(1, "A"), given(1, "w", whole(1), tick(1))}
	for i := range n {
		for k := range n {
			for _, w := range bad {
				if i == k || i == 0 {
					continue
				}
				l := many(n)
				l[i].Cat, l[i].Name = l[0].Cat, l[0].Name
				l[k] = w
				want := api.ErrThere
				if k < i {
					want = api.ErrArg
				}
				is(t, "a wrong one and a second one", ask.Right(l), want)
			}
		}
		for k := range i {
			l := many(n)
			l[i].Cat, l[i].Name, l[i].Bag = l[k].Cat, l[k].Name, []api.Value{{}}
			is(t, "a second one, of no bag", ask.Right(l), api.ErrArg)
		}
		l := many(n)
		l[i] = bad[0]
		is(t, "two that are none", ask.Right(append(l, bad[0])), api.ErrArg)
	}
}

var named = regexp.MustCompile(`\A[a-z][a-z0-9_]{0,15}\z`)

func goodValue(v api.Value) bool {
	switch v.Kind {
	case 1:
		return v == api.Value{Kind: 1} || v == api.Value{Kind: 1, N: 1}
	case 2:
		return v == api.Value{Kind: 2, N: v.N}
	case 3:
		return v == api.Value{Kind: 3, S: v.S} && len(v.S) < maxText+1
	case 4:
		return v == api.Value{Kind: 4, N: v.N} && -1 < v.N && v.N < maxTick+1
	case 5:
		return v == api.Value{Kind: 5, S: v.S} && named.MatchString(v.S)
	}
	return false
}

// told reckons Right from the words of P11.1.
func told(l []api.Given) api.Errno {
	if len(l) > maxAttrs {
		return api.ErrLimit
	}
	met := map[string]bool{}
	for _, g := range l {
		kinds := map[int]bool{}
		for _, v := range g.Bag {
			kinds[v.Kind] = true
			if !goodValue(v) {
				return api.ErrArg
			}
		}
		if !slices.Contains([]int{1, 2, 3, 4}, g.Cat) || !named.MatchString(g.Name) || len(kinds) > 1 || len(g.Bag) > maxBag {
			return api.ErrArg
		}
		key := strconv.Itoa(g.Cat) + "." + g.Name
		if met[key] {
			return api.ErrThere
		}
		met[key] = true
	}
	return api.OK
}

func TestRightIsAsTold(t *testing.T) {
	counts := map[api.Errno]int{}
	wrong := wrongOnes()
	for i := range 20000 {
		m := maker{x: uint64(i)}
		l := m.right(9)
		for range m.n(3) {
			if len(l) == 0 {
				break
			}
			switch m.n(3) {
			case 0:
				l[m.n(len(l))] = pick(&m, wrong)
			case 1:
				l[m.n(len(l))] = pick(&m, l)
			case 2:
				l[m.n(len(l))].Bag = pick(&m, goodBags())
			}
		}
		want := told(l)
		counts[want]++
		is(t, "mixed", ask.Right(l), want)
	}
	for _, e := range []api.Errno{api.OK, api.ErrArg, api.ErrThere} {
		if counts[e] < 1000 {
			t.Errorf("error %d was asked for %d times", e, counts[e])
		}
	}
}
