package expr_test

import (
	"slices"
	"strings"
	"testing"
	"unsafe"

	"bailiff/api"
	"bailiff/expr"
)

// What holds everywhere

// deep is a copy that shares nothing, with what lies in the room behind each list as part of it.
func deep(g []api.Given) []api.Given {
	out := slices.Clone(g[:cap(g)])
	for i, h := range out {
		out[i].Bag = slices.Clone(h.Bag[:cap(h.Bag)])
	}
	return out
}

// withRoom has attributes behind the request, and values behind each bag, all of which would count if they were read.
func withRoom(g []api.Given) []api.Given {
	var out []api.Given
	more := given(api.CCase, "x", boolean(1))
	for _, h := range append(slices.Clone(g), more, given(1, "number", whole(8)), given(2, "truth", boolean(1))) {
		bag := append(slices.Clone(h.Bag), whole(9), boolean(1), api.Value{S: "room"})
		out = append(out, given(h.Cat, h.Name, bag[:len(h.Bag)]...))
	}
	return slices.Clip(out)[:len(g)]
}

// nodesWithRoom has nodes behind the expression that would make another one of it.
func nodesWithRoom(l []api.Node) []api.Node {
	return slices.Clip(slices.Concat(l, do(api.NNot), lit(boolean(0)), do(api.NAnd)))[:len(l)]
}

func sameGiven(a, b api.Given) bool {
	return a.Cat == b.Cat && a.Name == b.Name && slices.Equal(a.Bag, b.Bag)
}

// R2, R5: what is handed in is as it was, and the room behind a list is neither read nor written.
func TestWhatIsHandedInStays(t *testing.T) {
	for i := range 5000 {
		m := maker{x: uint64(i)}
		plain := m.tree(1+m.n(maxExpr), m.n(3) > 0).row()
		if i%5 == 0 {
			plain = plain[m.n(len(plain)):]
		}
		g := m.request()
		want, wanted := expr.Value(plain, g)
		cond := expr.Cond(plain, g)

		l, with := nodesWithRoom(plain), withRoom(g)
		nodes, before := slices.Clone(l[:cap(l)]), deep(with)
		for range 2 {
			if v, err := expr.Value(l, with); v != want || err != wanted {
				t.Fatalf("%+v of %+v: %+v, error %d, not %+v, error %d", plain, g, v, err, want, wanted)
			}
			if got := expr.Cond(l, with); got != cond {
				t.Fatalf("%+v of %+v: %d, not %d", plain, g, got, cond)
			}
		}
		if !slices.Equal(l[:cap(l)], nodes) {
			t.Fatalf("%+v is another expression", plain)
		}
		if !slices.EqualFunc(deep(with), before, sameGiven) {
			t.Fatalf("%+v is another request", g)
		}
	}
}

// R2: an answer shares no bytes with a literal, nor with a bag.
func TestTextsAreNotKept(t *testing.T) {
	for _, kind := range []int{api.KText, api.KId} {
		shared := []byte("ann")
		v := api.Value{Kind: kind, S: unsafe.String(&shared[0], len(shared))}
		a, _ := expr.Value(lit(v), nil)
		b, _ := expr.Value(one(of("x")), x(v))
		c, _ := expr.Value(one(must("x")), x(v))
		copy(shared, "???")
		for _, got := range []api.Value{a, b, c} {
			if got.Kind != kind || got.S != "ann" {
				t.Errorf("%+v", got)
			}
		}
	}
}

// R4: nil and empty lists mean the same.
func TestEmptyLists(t *testing.T) {
	for _, l := range [][]api.Node{nil, {}, one(of("x")), size(of("x")), size(must("x")), do(api.NHas, of("x"), lit(whole(1))), lit(boolean(1)), wrongOne()} {
		v, err := expr.Value(l, nil)
		cond := expr.Cond(l, nil)
		for _, g := range [][]api.Given{{}, x(), {{Cat: api.CCase, Name: "x", Bag: []api.Value{}}}, x(whole(1))[:0]} {
			w, other := expr.Value(l, g)
			if v != w || err != other || expr.Cond(l, g) != cond {
				t.Errorf("%+v of %+v: %+v, error %d", l, g, w, other)
			}
		}
	}
}

func wrongOne() []api.Node { return do(api.NAnd, lit(boolean(0))) }

// R1: long expressions and requests are at their end soon.
func TestLongOnes(t *testing.T) {
	bag := slices.Repeat(wholes(1, 2), 1<<17)
	g := append(slices.Repeat([]api.Given{given(api.CSubject, "x", whole(1))}, 1<<18), given(api.CCase, "x", bag...))
	comes(t, "a long bag", size(must("x")), g, whole(len(bag)))
	comes(t, "a long bag", do(api.NHas, of("x"), lit(whole(3))), g, boolean(0))
	fails(t, "a long bag", one(of("x")), g, api.ErrMissing)
	long := strings.Repeat("a", 1<<24)
	comes(t, "a long text", one(of("x")), x(text(long)), text(long))
	fails(t, "a long text", do(api.NEq, one(of("x")), lit(text("a"))), x(text(long)), api.ErrArg)
	refused(t, "a long name", one(of(long)), []api.Given{given(api.CCase, long, whole(1))}, 1)
	refused(t, "a long expression", slices.Repeat(lit(boolean(1)), 1<<20), nil, 1)
}
