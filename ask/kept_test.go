package ask_test

import (
	"bytes"
	"slices"
	"strings"
	"testing"
	"unsafe"

	"bailiff/api"
	"bailiff/ask"
)

// What holds everywhere

// deep is a copy that shares nothing, with what lies in the room behind each list as part of it.
func deep(l []api.Given) []api.Given {
	out := slices.Clone(l[:cap(l)])
	for i, g := range out {
		out[i].Bag = slices.Clone(g.Bag[:cap(g.Bag)])
	}
	return out
}

// withRoom has attributes behind the request, and values behind each bag, all of which would count if they were read.
func withRoom(l []api.Given) []api.Given {
	var out []api.Given
	for _, g := range append(slices.Clone(l), given(1, "a", whole(8)), given(2, "a", whole(8)), given(0, "", api.Value{})) {
		bag := append(slices.Clone(g.Bag), whole(9), tick(-9), api.Value{S: "room"})
		out = append(out, given(g.Cat, g.Name, bag[:len(g.Bag)]...))
	}
	return slices.Clip(out)[:len(l)]
}

// R2, R5: what is handed in is as it was, and the room behind a list is neither read nor written.
func TestWhatIsHandedInStays(t *testing.T) {
	for i := range 2000 {
		m := maker{x: uint64(i)}
		plain, more := m.mixed(12), m.given()
		l, g := withRoom(plain), withRoom([]api.Given{more})[0]
		before, one := deep(l), deep([]api.Given{g})
		for range 2 {
			is(t, "Right", ask.Right(l), told(plain))
			if !bytes.Equal(ask.Put(l), ask.Put(plain)) {
				t.Fatalf("%+v: the room behind is written", plain)
			}
			bag, err := ask.Get(l, must(g.Cat, g.Name))
			want, wanted := ask.Get(plain, must(g.Cat, g.Name))
			if !slices.Equal(bag, want) || err != wanted {
				t.Fatalf("%+v: %+v, error %d, not %+v, error %d", plain, bag, err, want, wanted)
			}
			are(t, "With", ask.With(l, g), ask.With(plain, more))
		}
		are(t, "the request", deep(l), before)
		are(t, "what was given", deep([]api.Given{g}), one)
	}
}

// spoil writes into all that belongs to a request, the room behind its lists too.
func spoil(l []api.Given) {
	for i := range l[:cap(l)] {
		g := &l[:cap(l)][i]
		spoilBag(g.Bag)
		*g = given(7, "spoilt", text("spoilt"))
	}
}

func spoilBag(bag []api.Value) {
	bag = bag[:cap(bag)]
	for i := range bag {
		bag[i] = api.Value{Kind: 77, N: 77, S: "spoilt"}
	}
}

// R2: who writes into an answer changes neither the request nor another answer, and the other way round.
func TestAnswersAreNewMemory(t *testing.T) {
	for i := range 2000 {
		m := maker{x: uint64(i)}
		l, g := withRoom(m.mixed(12)), withRoom([]api.Given{m.given()})[0]
		before, one := deep(l), deep([]api.Given{g})
		want, wanted := deep(ask.With(l, g)), slices.Clone(first(ask.Get(l, attr(g.Cat, g.Name))))
		put := slices.Clone(ask.Put(l))

		spoil(ask.With(l, g))
		spoilBag(first(ask.Get(l, attr(g.Cat, g.Name))))
		spoilt := ask.Put(l)
		clear(spoilt[:cap(spoilt)])
		are(t, "the request", deep(l), before)
		are(t, "what was given", deep([]api.Given{g}), one)

		with, bag, b := ask.With(l, g), first(ask.Get(l, attr(g.Cat, g.Name))), ask.Put(l)
		spoil(l)
		spoilBag(g.Bag)
		are(t, "With", deep(with), want)
		if !slices.Equal(bag, wanted) || !bytes.Equal(b, put) {
			t.Fatalf("%+v, % x: not %+v, % x", bag, b, wanted, put)
		}
	}
}

func first(bag []api.Value, _ api.Errno) []api.Value { return bag }

// R2: no two lists of one answer share memory, even if the bags that were given do.
func TestListsOfOneAnswer(t *testing.T) {
	bag := make([]api.Value, 0, 9)
	bag = append(bag, whole(1), whole(2), whole(3))
	l := []api.Given{given(1, "a"), given(1, "b"), given(1, "c")}
	for i := range l {
		l[i].Bag = bag[:i+1]
	}
	for _, name := range []string{"a", "b", "c", "d"} {
		g := given(1, name)
		g.Bag = bag
		n := len(ask.With(l, g))
		for i := range n {
			with := ask.With(l, g)
			want := deep(with)
			spoilBag(with[i].Bag)
			for k, h := range with {
				if k != i && !slices.Equal(h.Bag[:cap(h.Bag)], want[k].Bag) {
					t.Errorf("with %s: the bag %d shares with %d", name, k, i)
				}
			}
		}
	}
}

// R2: texts are no more kept than lists.
func TestTextsAreNotKept(t *testing.T) {
	shared := []byte("ann")
	name := unsafe.String(&shared[0], len(shared))
	l := []api.Given{given(1, name, text(name)), given(2, name, id(name))}
	bag, err := ask.Get(l, must(1, name))
	with := ask.With(l, given(3, name, id(name)))
	put := ask.Put(l)
	copy(shared, "???")
	is(t, "Get", err, api.OK)
	if !slices.Equal(bag, []api.Value{text("ann")}) {
		t.Errorf("%+v", bag)
	}
	are(t, "With", with, []api.Given{given(1, "ann", text("ann")), given(2, "ann", id("ann")), given(3, "ann", id("ann"))})
	if want := []byte{4, 2, 6, 'a', 'n', 'n', 2, 6, 6, 'a', 'n', 'n', 4, 6, 'a', 'n', 'n', 2, 10, 6, 'a', 'n', 'n'}; !bytes.Equal(put, want) {
		t.Errorf("% x", put)
	}
}

// R4: nil and empty lists mean the same.
func TestEmptyLists(t *testing.T) {
	none, empty := []api.Given{given(1, "a"), given(2, "a")}, []api.Given{{Cat: 1, Name: "a", Bag: []api.Value{}}, {Cat: 2, Name: "a", Bag: wholes(1)[:0]}}
	for _, l := range [][]api.Given{none, empty} {
		is(t, "Right", ask.Right(l), api.OK)
		gets(t, "Get", l, 1, "a")
		gets(t, "Get", l, 2, "a")
		puts(t, []byte{4, 2, 2, 'a', 0, 4, 2, 'a', 0}, l...)
		are(t, "With", ask.With(l, empty[0]), none)
		are(t, "With", ask.With(l, none[1]), none)
	}
}

// R1: long requests are at their end soon.
func TestLongOnes(t *testing.T) {
	l := slices.Repeat([]api.Given{given(1, "a", wholes(1, 2)...)}, 1<<18)
	l = append(l, given(4, "z", whole(3)))
	is(t, "Right", ask.Right(l), api.ErrLimit)
	gets(t, "Get", l, 4, "z", whole(3))
	with := ask.With(l, given(4, "z", whole(4)))
	gets(t, "With", with, 4, "z", whole(4))
	if len(with) != len(l) {
		t.Error(len(with))
	}
	name := strings.Repeat("a", 1<<24)
	is(t, "a long name", ask.Right([]api.Given{given(1, name)}), api.ErrArg)
	gets(t, "a long name", []api.Given{given(1, name[1:]), given(1, name, whole(1))}, 1, name, whole(1))
}
