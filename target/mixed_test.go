package target_test

import (
	"slices"
	"testing"

	"bailiff/api"
	"bailiff/value"
)

// P13.1 and P13.2 of mixed things, by the promises' words

// told is what Match must answer.
func told(m api.Match, g []api.Given) int {
	var bag []api.Value
	if i := slices.IndexFunc(g, func(h api.Given) bool { return h.Cat == m.Attr.Cat && h.Name == m.Attr.Name }); i >= 0 {
		bag = g[i].Bag
	}
	switch {
	case len(bag) == 0 && m.Attr.Must:
		return 1
	case slices.ContainsFunc(bag, func(v api.Value) bool { return meets(m, v) }):
		return 2
	case slices.ContainsFunc(bag, func(v api.Value) bool { return !heldAgainst(m, v) }):
		return 1
	}
	return 0
}

func meets(m api.Match, v api.Value) bool {
	less, more := false, false
	if less, _ = value.Less(v, m.Value); m.Op == api.MLess {
		return less
	}
	if more, _ = value.Less(m.Value, v); m.Op != api.MEq {
		return more
	}
	return v == m.Value
}

func heldAgainst(m api.Match, v api.Value) bool {
	if m.Op == api.MEq {
		return v.Kind == m.Value.Kind
	}
	return value.Right(v) && value.Right(m.Value) && v.Kind == m.Value.Kind && v.Kind != api.KBool
}

// toldOf is what each match of a target comes to.
func toldOf(t api.Target, g []api.Given) [][][]int {
	var out [][][]int
	for _, anyOf := range t {
		var alls [][]int
		for _, allOf := range anyOf {
			alls = append(alls, toldOfAll(allOf, g))
		}
		out = append(out, alls)
	}
	return out
}

func toldOfAll(l []api.Match, g []api.Given) []int {
	var out []int
	for _, m := range l {
		out = append(out, told(m, g))
	}
	return out
}

func TestMixedMatches(t *testing.T) {
	seen := [3]int{}
	for i := range 60000 {
		m := maker{x: uint64(i)}
		one, g := m.match(), m.request()
		want := told(one, g)
		matches(t, "mixed", one, g, want)
		seen[want]++
	}
	if slices.Min(seen[:]) < 5000 {
		t.Error(seen)
	}
}

func TestMixedTargets(t *testing.T) {
	seen, rows := [3]int{}, [3]int{}
	for i := range 40000 {
		m := maker{x: uint64(i)}
		l, g := m.target(1+i%4), m.request()
		want := ofTarget(toldOf(l, g))
		met(t, "mixed", l, g, want)
		seen[want]++

		row := m.allOf(1 + i%4)
		want = ofAll(toldOfAll(row, g))
		all(t, "mixed", row, g, want)
		rows[want]++
	}
	if slices.Min(seen[:]) < 2000 || slices.Min(rows[:]) < 2000 {
		t.Error(seen, rows)
	}
}

// The order of values, matches, AllOfs and AnyOfs doesn't matter, nor whether one stands twice.
func TestOrderDoesNotMatter(t *testing.T) {
	for i := range 10000 {
		m := maker{x: uint64(i)}
		l, g := m.target(4), m.request()
		want := ofTarget(toldOf(l, g))
		for _, anyOf := range l {
			for _, allOf := range anyOf {
				shuffle(&m, allOf)
			}
			shuffle(&m, anyOf)
		}
		shuffle(&m, l)
		for _, h := range g {
			shuffle(&m, h.Bag)
		}
		met(t, "in another order", l, g, want)
		met(t, "twice", slices.Repeat(l, 2), g, want)
	}
}

func shuffle[T any](m *maker, l []T) {
	for i := range l {
		k := i + m.n(len(l)-i)
		l[i], l[k] = l[k], l[i]
	}
}
