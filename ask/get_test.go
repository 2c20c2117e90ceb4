package ask_test

import (
	"math"
	"slices"
	"strings"
	"testing"

	"bailiff/api"
	"bailiff/ask"
)

// P11.2

// gets asks for a bag, with and without Must.
func gets(t *testing.T, what string, l []api.Given, cat int, name string, want ...api.Value) {
	t.Helper()
	bag, err := ask.Get(l, attr(cat, name))
	if !slices.Equal(bag, want) || err != api.OK {
		t.Fatalf("%s: %+v, error %d, not %+v", what, bag, err, want)
	}
	missing := api.OK
	if len(want) == 0 {
		missing = api.ErrMissing
	}
	bag, err = ask.Get(l, must(cat, name))
	if !slices.Equal(bag, want) || err != missing {
		t.Fatalf("%s, with Must: %+v, error %d, not %+v, error %d", what, bag, err, want, missing)
	}
}

func TestGetOfNoAttributes(t *testing.T) {
	_, err := ask.Get(nil, must(api.CSubject, "role"))
	is(t, "the chapter's run", err, api.ErrMissing)
	for _, l := range [][]api.Given{nil, {}, many(9)[:0]} {
		for _, cat := range append(cats(), badCats()...) {
			for _, name := range append(goodNames(), badNames()...) {
				gets(t, "none", l, cat, name)
			}
		}
	}
}

func TestGetOfEachBag(t *testing.T) {
	for _, cat := range cats() {
		for _, name := range goodNames() {
			for _, bag := range goodBags() {
				g := given(cat, name, bag...)
				gets(t, "alone", []api.Given{g}, cat, name, bag...)
				gets(t, "behind others", []api.Given{given(cat, "other", id("a")), given(cat%4+1, name, id("b")), g}, cat, name, bag...)
			}
		}
	}
}

func TestGetAtEachPlace(t *testing.T) {
	for _, n := range []int{1, 2, 3, 9, maxAttrs, maxAttrs + 1, 300} {
		l := many(n)
		for _, g := range l {
			gets(t, "one of many", l, g.Cat, g.Name, g.Bag...)
		}
		gets(t, "none of many", l, api.CSubject, "n")
		gets(t, "behind the last", many(n + 1)[:n], 1+n%4, many(n + 1)[n].Name)
	}
}

func TestGetByCategoryAndName(t *testing.T) {
	var l []api.Given
	for i, cat := range cats() {
		for k, name := range few() {
			l = append(l, given(cat, name, whole(10*i+k)))
		}
	}
	for i, cat := range cats() {
		for k, name := range few() {
			gets(t, "one of like ones", l, cat, strings.Clone(name), whole(10*i+k))
			var others []api.Given
			for _, g := range l {
				if g.Cat != cat || g.Name != name {
					others = append(others, g)
				}
			}
			gets(t, "only like ones", others, cat, name)
		}
		for _, name := range []string{"", "b0", "A", "aaa", "a ", " a", "a\x00"} {
			gets(t, "another name", l, cat, name)
		}
	}
	for _, cat := range badCats() {
		gets(t, "another category", l, cat, "a")
	}
}

// The first one counts, even if it is empty and another one isn't.
func TestGetOfSeveral(t *testing.T) {
	bags := [][]api.Value{wholes(1, 2), {}, nil, {id("a")}, {text("")}}
	for _, first := range bags {
		for _, second := range bags {
			l := []api.Given{given(3, "y", whole(8)), given(2, "x", whole(9)), given(3, "x", first...), given(3, "xx", whole(7)), given(3, "x", second...)}
			gets(t, "twice", l, 3, "x", first...)
			gets(t, "twice in a row", []api.Given{l[2], l[4]}, 3, "x", first...)
			gets(t, "twice, and once more", append(l, given(3, "x", whole(5))), 3, "x", first...)
		}
	}
}

// The promise asks for no right request and no right attribute: what is there is found.
func TestGetOfWhatIsNotRight(t *testing.T) {
	for _, bag := range badBags() {
		gets(t, "a bag that is none", []api.Given{given(1, "a", bag...)}, 1, "a", bag...)
	}
	for _, cat := range append(badCats(), 1) {
		for _, name := range badNames() {
			gets(t, "no right attribute", []api.Given{given(1, "a", whole(1)), given(cat, name, whole(2)), given(cat, name, whole(3))}, cat, name, whole(2))
		}
	}
	gets(t, "zero", []api.Given{{}}, 0, "")
	gets(t, "zero, of a value", []api.Given{{Bag: []api.Value{{}}}}, 0, "", api.Value{})
	gets(t, "far", []api.Given{given(math.MinInt, "\xff", tick(-1))}, math.MinInt, "\xff", tick(-1))
}

func TestGetIsAsTold(t *testing.T) {
	found, empty := 0, 0
	for i := range 20000 {
		m := maker{x: uint64(i)}
		l := m.mixed(20)
		a := m.given()
		var want []api.Value
		for _, g := range slices.Backward(l) {
			if g.Cat == a.Cat && g.Name == a.Name {
				want = g.Bag
			}
		}
		if len(want) > 0 {
			found++
		} else {
			empty++
		}
		gets(t, "mixed", l, a.Cat, a.Name, want...)
	}
	if found < 1000 || empty < 1000 {
		t.Error(found, empty)
	}
}
