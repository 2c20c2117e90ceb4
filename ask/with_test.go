package ask_test

import (
	"slices"
	"strings"
	"testing"

	"bailiff/api"
	"bailiff/ask"
)

// P11.3: With

func TestWithOfNoAttributes(t *testing.T) {
	for _, l := range [][]api.Given{nil, {}, many(9)[:0]} {
		for _, cat := range cats() {
			for _, name := range goodNames() {
				for _, bag := range goodBags() {
					g := given(cat, name, bag...)
					are(t, "the only one", ask.With(l, g), []api.Given{g})
				}
			}
		}
	}
}

func TestWithInThePlace(t *testing.T) {
	for _, n := range []int{1, 2, 3, 9, maxAttrs, maxAttrs + 1, 300} {
		for place := range n {
			for _, bag := range [][]api.Value{nil, {}, {id("new")}, wholes(5, 5, -5), wholes(make([]int, maxBag)...)} {
				l, want := many(n), many(n)
				g := given(l[place].Cat, strings.Clone(l[place].Name), bag...)
				want[place].Bag = bag
				are(t, "in the place of one", ask.With(l, g), want)
			}
		}
	}
}

func TestWithBehindAll(t *testing.T) {
	for _, n := range []int{1, 2, 3, 9, maxAttrs - 1, maxAttrs, maxAttrs + 1, 300} {
		for _, cat := range cats() {
			for _, g := range []api.Given{given(cat, "n"), given(cat, "a", whole(1)), given(cat, "nn0", id("a"), id("b")), given(cat, "z", wholes(make([]int, maxBag)...)...)} {
				are(t, "behind all", ask.With(many(n), g), append(many(n), g))
			}
		}
	}
	is(t, "one more is right yet", ask.Right(ask.With(many(maxAttrs-1), given(1, "a"))), api.OK)
	is(t, "one more is too many", ask.Right(ask.With(many(maxAttrs), given(1, "a"))), api.ErrLimit)
	is(t, "in the place of one", ask.Right(ask.With(many(maxAttrs), given(1, "n0"))), api.OK)
}

func TestWithByCategoryAndName(t *testing.T) {
	for _, cat := range cats() {
		for _, name := range few() {
			g := given(cat, name, text("new"))
			var l, want []api.Given
			for i, c := range cats() {
				for k, other := range few() {
					h := given(c, other, whole(10*i+k))
					if c == cat && other == name {
						continue
					}
					l = append(l, h)
					want = append(want, h)
				}
			}
			are(t, "only like ones", ask.With(l, g), append(want, g))
		}
	}
}

// Of several the first makes room; the others stay.
func TestWithOfSeveral(t *testing.T) {
	x := func(n int) api.Given { return given(3, "x", whole(n)) }
	y := given(3, "y", whole(8))
	g := x(5)
	are(t, "two", ask.With([]api.Given{x(1), x(2)}, g), []api.Given{g, x(2)})
	are(t, "two behind another", ask.With([]api.Given{y, x(1), y, x(2), y}, g), []api.Given{y, g, y, x(2), y})
	are(t, "three", ask.With([]api.Given{x(1), x(2), x(3)}, g), []api.Given{g, x(2), x(3)})
	are(t, "the first empty", ask.With([]api.Given{given(3, "x"), x(2)}, g), []api.Given{g, x(2)})
	are(t, "the same", ask.With([]api.Given{g, g}, g), []api.Given{g, g})
	are(t, "an empty one", ask.With([]api.Given{x(1), x(2)}, given(3, "x")), []api.Given{given(3, "x"), x(2)})
}

// The promise asks for nothing right.
func TestWithOfWhatIsNotRight(t *testing.T) {
	for _, bad := range wrongOnes() {
		are(t, "of nothing", ask.With(nil, bad), []api.Given{bad})
		are(t, "behind others", ask.With(many(2), bad), append(many(2), bad))
		h := bad
		h.Bag = wholes(3)
		are(t, "in the place of a wrong one", ask.With([]api.Given{h, given(1, "v"), h}, bad), []api.Given{bad, given(1, "v"), h})
		are(t, "a right one behind wrong ones", ask.With([]api.Given{bad, bad}, given(1, "v")), []api.Given{bad, bad, given(1, "v")})
	}
}

func TestWithIsAsTold(t *testing.T) {
	there, behind := 0, 0
	for i := range 20000 {
		m := maker{x: uint64(i)}
		l, g := m.mixed(20), m.given()
		var want []api.Given
		done := false
		for _, h := range l {
			if !done && h.Cat == g.Cat && h.Name == g.Name {
				h, done = g, true
			}
			want = append(want, h)
		}
		if done {
			there++
		} else {
			behind++
			want = append(want, g)
		}
		got := ask.With(l, g)
		are(t, "mixed", got, want)
		gets(t, "what was put in", got, g.Cat, g.Name, g.Bag...)
		are(t, "once more", ask.With(got, g), want)
		if r := m.right(9); ask.Right(ask.With(r, g)) != api.OK {
			t.Fatalf("%+v with %+v isn't right", r, g)
		}
	}
	if there < 1000 || behind < 1000 {
		t.Error(there, behind)
	}
}

// What was put in one by one stands as it came.
func TestWithOneByOne(t *testing.T) {
	for i := range 300 {
		m := maker{x: uint64(i)}
		var l []api.Given
		want := m.right(40)
		for _, g := range want {
			l = ask.With(l, given(g.Cat, g.Name, m.bag()...))
		}
		for _, g := range m.shuffled(want) {
			l = ask.With(l, g)
		}
		are(t, "one by one", l, want)
	}
	if got := ask.With(slices.Repeat(many(4), 1<<12), given(4, "last")); len(got) != 1<<14+1 {
		t.Error(len(got))
	}
}
