package vars_test

import (
	"slices"
	"testing"

	"bailiff/api"
	"bailiff/vars"
)

// P15.2: Find

// odd are atoms that no policy has: of both parts, of none, and of parts that aren't right.
func odd() []api.Atom {
	m, c := asks(api.MEq, whole(1)), lit(boolean(1))
	return []api.Atom{
		{}, {Match: m, Cond: c}, {Match: m, Cond: lit(boolean(0))}, {Match: asks(api.MLess, whole(1)), Cond: c},
		{Match: api.Match{Op: 9}}, {Match: api.Match{Op: -1}},
		{Match: api.Match{Attr: attr(7, "X")}}, {Match: api.Match{Value: api.Value{Kind: 9, N: 1, S: "x"}}}, {Match: api.Match{Value: api.Value{Kind: 9, N: 1}}},
		{Match: api.Match{Attr: api.Attr{Must: true}}}, {Cond: []api.Node{{}}}, {Cond: []api.Node{{}, {}}}, {Cond: []api.Node{{Op: 99}}},
		{Cond: []api.Node{{Op: api.NLit, Value: whole(1), Attr: attr(1, "x")}}}, {Cond: []api.Node{{Op: api.NLit, Value: whole(1), Attr: attr(2, "x")}}},
		{Cond: slices.Repeat(c, 1000)}, {Cond: slices.Repeat(c, 1001)},
	}
}

func TestFindAtEachPlace(t *testing.T) {
	l := once(slices.Concat(likes(), odd()))
	if len(l) != len(likes())+len(odd()) {
		t.Fatal(len(l))
	}
	for i, a := range l {
		finds(t, "among all", l, again(a), i)
		finds(t, "ahead of it", l[:i], again(a), -1)
		finds(t, "up to it", l[:i+1], again(a), i)
		finds(t, "behind it", l[i+1:], again(a), -1)
		finds(t, "alone", []api.Atom{a}, again(a), 0)
		finds(t, "none", nil, a, -1)
		finds(t, "an empty list", []api.Atom{}, a, -1)
		finds(t, "an empty list with room", l[:0], a, -1)
	}
}

// Of several the first one.
func TestFindOfSeveral(t *testing.T) {
	l := once(slices.Concat(likes()[:20], odd(), likes()[60:70]))
	for i, a := range l {
		for _, b := range l {
			want := 0
			if key(a) != key(b) {
				want = 1
			}
			finds(t, "three in a row", []api.Atom{b, again(a), again(a)}, a, want)
		}
		finds(t, "all twice", slices.Concat(l, l), a, i)
		finds(t, "backward, and forward again", slices.Concat(backward(l), l), a, len(l)-1-i)
	}
}

func backward(l []api.Atom) []api.Atom {
	l = slices.Clone(l)
	slices.Reverse(l)
	return l
}

// R4: that a condition is empty can be written in two ways.
func TestFindOfEmptyConditions(t *testing.T) {
	m := asks(api.MMore, tick(3))
	empty := []api.Atom{{Match: m}, {Match: m, Cond: []api.Node{}}, {Match: m, Cond: lit(whole(1))[:0]}}
	for _, a := range empty {
		for _, b := range empty {
			finds(t, "an empty condition", []api.Atom{{Match: m, Cond: lit(whole(1))}, {}, b}, a, 2)
		}
	}
	finds(t, "zero", []api.Atom{{Cond: lit(whole(1))}, {Cond: []api.Node{}}}, api.Atom{}, 1)
}

// A policy's atoms are found where they are listed; others aren't.
func TestFindOfPolicies(t *testing.T) {
	for i := range 3000 {
		m := maker{x: uint64(i), room: 5}
		p := m.policy(1+i%maxDeep, 3)
		l, err := vars.Of(p)
		if err != api.OK {
			continue
		}
		for k, a := range l {
			finds(t, "its own", l, again(a), k)
			other := again(a)
			if len(a.Cond) == 0 {
				other.Match.Op += 3
			} else {
				other.Cond = append(other.Cond, other.Cond[0])
			}
			finds(t, "none of its own", l, other, -1)
			finds(t, "both parts", l, api.Atom{Match: asks(api.MEq, whole(1)), Cond: lit(boolean(1))}, -1)
		}
	}
}

// By the words: the first place, of rows of few atoms.
func TestFindMixed(t *testing.T) {
	all := slices.Concat(likes()[:6], odd()[:4], likes()[len(likes())-5:])
	found := 0
	for i := range 20000 {
		m := maker{x: uint64(i)}
		row := some(m.n(12), func() int { return m.n(len(all)) })
		var l []api.Atom
		for _, n := range row {
			l = append(l, again(all[n]))
		}
		n := m.n(len(all))
		want := slices.Index(row, n)
		finds(t, "mixed", l, all[n], want)
		found += want + 1
	}
	if found < 5000 {
		t.Error(found)
	}
}
