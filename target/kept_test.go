package target_test

import (
	"slices"
	"strings"
	"testing"

	"bailiff/api"
	"bailiff/target"
)

// What holds everywhere

// withRoom has things behind each of its lists: the first would count if it were read, the next would be missed if it were written over.
func withRoom(t api.Target) api.Target {
	var out api.Target
	for _, anyOf := range t {
		var l [][]api.Match
		for _, allOf := range anyOf {
			l = append(l, roomBehind(allOf, thatAre(0)...))
		}
		out = append(out, roomBehind(l, nil, thatAre(0)))
	}
	return roomBehind(out, nil, [][]api.Match{thatAre(0)})
}

// roomBehind is the same list with these in its room.
func roomBehind[T any](l []T, behind ...T) []T { return slices.Concat(l, behind)[:len(l)] }

func requestWithRoom(g []api.Given) []api.Given {
	var out []api.Given
	for _, h := range g {
		out = append(out, given(h.Cat, h.Name, roomBehind(h.Bag, whole(0), text("a"), whole(3), api.Value{})...))
	}
	return roomBehind(out, given(1, "x", whole(1)), given(1, "xx", whole(1)), given(2, "x", text("a")), given(2, "xx", text("a")))
}

// deepTarget and deepRequest share nothing with what they are of, and have the room as part of them.
func deepTarget(t api.Target) api.Target {
	out := slices.Clone(t[:cap(t)])
	for i, anyOf := range out {
		out[i] = slices.Clone(anyOf[:cap(anyOf)])
		for k, allOf := range out[i] {
			out[i][k] = slices.Clone(allOf[:cap(allOf)])
		}
	}
	return out
}

func deepRequest(g []api.Given) []api.Given {
	out := slices.Clone(g[:cap(g)])
	for i, h := range out {
		out[i].Bag = slices.Clone(h.Bag[:cap(h.Bag)])
	}
	return out
}

func sameTarget(a, b api.Target) bool {
	return slices.EqualFunc(a, b, func(a, b [][]api.Match) bool { return slices.EqualFunc(a, b, slices.Equal[[]api.Match]) })
}

func sameRequest(a, b []api.Given) bool {
	return slices.EqualFunc(a, b, func(a, b api.Given) bool {
		return a.Cat == b.Cat && a.Name == b.Name && slices.Equal(a.Bag, b.Bag)
	})
}

// R2, R5: what is handed in is as it was, and the room behind a list is neither read nor written.
func TestWhatIsHandedInStays(t *testing.T) {
	for i := range 5000 {
		m := maker{x: uint64(i)}
		plain, row, one, g := m.target(4), m.allOf(4), m.match(), m.request()
		wants := [3]int{target.Met(plain, g), target.All(row, g), target.Match(one, g)}

		l, r, with := withRoom(plain), roomBehind(row, thatAre(0)...), requestWithRoom(g)
		before, rowBefore, request := deepTarget(l), slices.Clone(r[:cap(r)]), deepRequest(with)
		for range 2 {
			if got := [3]int{target.Met(l, with), target.All(r, with), target.Match(one, with)}; got != wants {
				t.Fatalf("%+v, %+v, %+v of %+v: with room %v, not %v", plain, row, one, g, got, wants)
			}
		}
		if !sameTarget(deepTarget(l), before) || !slices.Equal(r[:cap(r)], rowBefore) {
			t.Fatalf("%+v, %+v is another target", plain, row)
		}
		if !sameRequest(deepRequest(with), request) {
			t.Fatalf("%+v is another request", g)
		}
	}
}

// R4, R8: what was asked before says nothing of what is asked now.
func TestNothingIsKept(t *testing.T) {
	m, g := of(api.MEq, whole(1)), x(whole(2))
	both(t, "not met", m, g, 0)
	g[0].Bag[0] = whole(1)
	both(t, "met now", m, g, 2)
	g[0].Bag[0] = text("1")
	both(t, "not known now", m, g, 1)
	g[0].Name = "y"
	matches(t, "not there now", m, g, 0)
}

// R1: long targets, bags, requests and texts are at their end soon.
func TestLongOnes(t *testing.T) {
	no, unsure, yes := thatAre(0)[0], thatAre(1)[0], thatAre(2)[0]
	long := slices.Repeat([]api.Match{yes}, 1<<17)
	soon(t, "a long AllOf", target.All(long, known()), 2)
	soon(t, "a long AllOf, not known at its end", target.All(append(long, unsure), known()), 1)
	soon(t, "a long AnyOf", target.Met(api.Target{slices.Repeat([][]api.Match{{no}}, 1<<17)}, known()), 0)
	soon(t, "a long target", target.Met(slices.Repeat(api.Target{{{yes}}}, 1<<17), known()), 2)
	soon(t, "a long target of nothing", target.Met(make(api.Target, 1<<20), known()), 0)

	bag := x(slices.Repeat(wholes(3, 4), 1<<17)...)
	soon(t, "a long bag, none the same", target.Match(of(api.MEq, whole(1)), bag), 0)
	soon(t, "a long bag, one less", target.Match(of(api.MLess, whole(4)), bag), 2)
	soon(t, "a long bag, none more", target.Match(of(api.MMore, whole(4)), bag), 0)
	request := append(slices.Repeat([]api.Given{given(api.CSubject, "x", whole(2))}, 1<<17), x(whole(1))...)
	one := of(api.MEq, whole(1))
	soon(t, "a long request, of a match", target.Match(one, request), 2)
	soon(t, "a long request, of an AllOf", target.All([]api.Match{one}, request), 2)
	soon(t, "a long request, of a target", target.Met(api.Target{{{one}}}, request), 2)

	s := strings.Repeat("a", 1<<24)
	soon(t, "a long text, the same", target.Match(of(api.MEq, text(s)), x(text(s[1:]), text(s))), 2)
	soon(t, "a long text, not right", target.Match(of(api.MLess, text(s)), x(text(s[1:]))), 1)
	m := api.Match{Attr: attr(api.CCase, s), Op: api.MEq, Value: whole(1)}
	soon(t, "a long name", target.Match(m, []api.Given{given(api.CCase, s[1:], whole(2)), given(api.CCase, s, whole(1))}), 2)
}

// soon writes none of what was asked: that would be long, too.
func soon(t *testing.T, what string, got, want int) {
	t.Helper()
	if got != want {
		t.Errorf("%s: %d, not %d", what, got, want)
	}
}
