package ask_test

import (
	"bytes"
	"cmp"
	"slices"
	"strings"
	"testing"

	"bailiff/api"
	"bailiff/ask"
	"bailiff/pack"
	"bailiff/value"
)

// P11.3: Put

// puts asks for the bytes of a request, in the order given and turned round.
func puts(t *testing.T, want []byte, l ...api.Given) {
	t.Helper()
	if got := ask.Put(l); !bytes.Equal(got, want) {
		t.Fatalf("%+v: % x, not % x", l, got, want)
	}
	back := slices.Clone(l)
	slices.Reverse(back)
	if got := ask.Put(back); !bytes.Equal(got, want) {
		t.Fatalf("%+v: % x, not % x", back, got, want)
	}
}

func TestPutBytes(t *testing.T) {
	puts(t, []byte{0})
	if b := ask.Put(nil); !bytes.Equal(b, []byte{0}) {
		t.Errorf("% x", b)
	}
	for i, cat := range cats() {
		puts(t, []byte{2, byte(2*i + 2), 2, 'a', 0}, given(cat, "a"))
		puts(t, []byte{2, byte(2*i + 2), 6, 'a', '_', '9', 2, 4, 2}, given(cat, "a_9", whole(1)))
	}
	puts(t, []byte{2, 2, 2, 'a', 4, 2, 0, 2, 2}, given(1, "a", boolean(0), boolean(1)))
	puts(t, []byte{2, 2, 2, 'a', 6, 4, 13, 4, 0x80, 1, 4, 0}, given(1, "a", whole(-7), whole(64), whole(0)))
	puts(t, []byte{2, 2, 2, 'a', 6, 6, 0, 6, 2, 'b', 6, 4, 0xff, 0}, given(1, "a", text(""), text("b"), text("\xff\x00")))
	puts(t, []byte{2, 2, 2, 'a', 4, 8, 10, 8, 0x80, 0x80, 0x80, 0x80, 0x80, 0x40}, given(1, "a", tick(5), tick(maxTick)))
	puts(t, []byte{2, 2, 2, 'a', 4, 10, 6, 'a', 'n', 'n', 10, 2, 'b'}, given(1, "a", id("ann"), id("b")))
	puts(t, []byte{2, 2, 2, 'a', 4, 10, 2, 'b', 10, 6, 'a', 'n', 'n'}, given(1, "a", id("b"), id("ann")))

	name := "abcdefghijklmnop"
	puts(t, append(append([]byte{2, 6, 32}, name...), 0), given(3, name))
	puts(t, append([]byte{2, 2, 2, 'a', 32}, bytes.Repeat([]byte{4, 1}, maxBag)...), given(1, "a", slices.Repeat(wholes(-1), maxBag)...))
	long := strings.Repeat("\x80", maxText)
	puts(t, append([]byte{2, 2, 2, 'a', 2, 6, 0x80, 1}, long...), given(1, "a", text(long)))
}

func TestPutBytesOfSeveral(t *testing.T) {
	puts(t, []byte{4, 2, 2, 'z', 0, 4, 2, 'a', 0}, given(2, "a"), given(1, "z"))
	puts(t, []byte{8, 2, 2, 'x', 0, 4, 2, 'x', 2, 4, 2, 6, 2, 'x', 0, 8, 2, 'x', 0}, given(1, "x"), given(2, "x", whole(1)), given(3, "x"), given(4, "x"))
	puts(t, []byte{6, 4, 2, 'b', 0, 6, 2, 'a', 0, 6, 2, 'c', 0}, given(3, "c"), given(2, "b"), given(3, "a"))
	// By the bytes of the names, not by what is written of them: a shorter one may stand behind.
	puts(t, []byte{4, 2, 4, 'a', 'z', 0, 2, 2, 'b', 0}, given(1, "az"), given(1, "b"))
	puts(t, []byte{10, 2, 2, 'a', 0, 2, 4, 'a', '0', 0, 2, 4, 'a', '_', 0, 2, 4, 'a', 'a', 0, 2, 6, 'a', 'a', 'a', 0}, given(1, "a"), given(1, "a0"), given(1, "a_"), given(1, "aa"), given(1, "aaa"))
	// What is in the bags doesn't matter for the order.
	puts(t, []byte{4, 8, 2, 'a', 2, 10, 2, 'z', 8, 2, 'b', 2, 2, 0}, given(4, "a", id("z")), given(4, "b", boolean(0)))

	var l []api.Given
	want := []byte{0x80, 1}
	for i, cat := range cats() {
		for n := range 16 {
			name := string([]byte{'n', "0123456789_abcde"[n]})
			l = append(l, given(cat, name))
			want = append(want, byte(2*i+2), 4, name[0], name[1], 0)
		}
	}
	puts(t, want, l...)
}

// written writes a request from the words of P11.3.
func written(l []api.Given) []byte {
	number := func(b []byte, n int) []byte {
		u := uint64(n) << 1
		if n < 0 {
			u = ^u
		}
		for ; u > 127; u >>= 7 {
			b = append(b, byte(u)|0x80)
		}
		return append(b, byte(u))
	}
	words := func(b []byte, s string) []byte { return append(number(b, len(s)), s...) }
	b := number(nil, len(l))
	for _, cat := range cats() {
		var names []string
		bags := map[string][]api.Value{}
		for _, g := range l {
			if g.Cat == cat {
				names = append(names, g.Name)
				bags[g.Name] = g.Bag
			}
		}
		slices.Sort(names)
		for _, name := range names {
			b = number(words(number(b, cat), name), len(bags[name]))
			for _, v := range bags[name] {
				b = number(b, v.Kind)
				if v.Kind == api.KText || v.Kind == api.KId {
					b = words(b, v.S)
				} else {
					b = number(b, v.N)
				}
			}
		}
	}
	return b
}

func TestPutIsAsTold(t *testing.T) {
	for i := range 5000 {
		m := maker{x: uint64(i)}
		l := m.right(1 + i%28)
		puts(t, written(l), l...)
	}
	for n := range maxAttrs + 1 {
		puts(t, written(many(n)), many(n)...)
	}
	for _, bag := range goodBags() {
		puts(t, written([]api.Given{given(2, "x", bag...)}), given(2, "x", bag...))
	}
	longest := []api.Given{}
	for i, g := range many(maxAttrs) {
		name := g.Name + strings.Repeat("_", maxName-len(g.Name))
		longest = append(longest, given(g.Cat, name, slices.Repeat([]api.Value{text(strings.Repeat(string([]byte{byte(i)}), maxText))}, maxBag)...))
	}
	is(t, "the longest", ask.Right(longest), api.OK)
	puts(t, written(longest), longest...)
}

// Beyond what is right the bytes may be any, but there are some, and they hang on what was given.
func TestPutOfWhatIsNotRight(t *testing.T) {
	puts := func(l []api.Given) {
		t.Helper()
		if a, b := ask.Put(l), ask.Put(slices.Clone(l)); !bytes.Equal(a, b) {
			t.Fatalf("%d attributes: %d and %d bytes, and they differ", len(l), len(a), len(b))
		}
	}
	for _, bad := range wrongOnes() {
		puts([]api.Given{bad})
		puts([]api.Given{bad, given(1, "a"), bad})
	}
	for i := range 300 {
		m := maker{x: uint64(i)}
		puts(m.mixed(80))
	}
	puts(many(1 << 16))
	puts(slices.Repeat([]api.Given{{}, given(1, "a", whole(1)), given(1, "a", whole(2))}, 1<<15))
	puts([]api.Given{given(1, "a", wholes(make([]int, 1<<20)...)...)})
	puts([]api.Given{given(1, strings.Repeat("a", 1<<20), text(strings.Repeat("b", 1<<20)))})
}

// P11.4

// orders are all orders of a request.
func orders(l []api.Given, yield func([]api.Given)) {
	var walk func(ahead, rest []api.Given)
	walk = func(ahead, rest []api.Given) {
		if len(rest) == 0 {
			yield(slices.Clone(ahead))
		}
		for i := range rest {
			walk(append(slices.Clone(ahead), rest[i]), slices.Concat(rest[:i], rest[i+1:]))
		}
	}
	walk(nil, l)
}

func TestEachOrderHasTheSameBytes(t *testing.T) {
	for i := range 30 {
		m := maker{x: uint64(i)}
		l := m.right(6)
		want := ask.Put(l)
		orders(l, func(other []api.Given) {
			if got := ask.Put(other); !bytes.Equal(got, want) {
				t.Fatalf("%+v and %+v: % x and % x", l, other, want, got)
			}
		})
	}
	for i := range 300 {
		m := maker{x: uint64(i)}
		l := many(maxAttrs - i%5)
		if other := m.shuffled(l); !bytes.Equal(ask.Put(l), ask.Put(other)) {
			t.Fatalf("%+v and %+v", l, other)
		}
	}
}

// sorted is by category and name: of two right requests it is the same just if they differ in their order alone.
func sorted(l []api.Given) []api.Given {
	out := slices.Clone(l)
	slices.SortFunc(out, func(a, b api.Given) int {
		return cmp.Or(a.Cat-b.Cat, bytes.Compare([]byte(a.Name), []byte(b.Name)))
	})
	return out
}

// read takes a request from its bytes again.
func read(t *testing.T, b []byte) []api.Given {
	t.Helper()
	r := pack.Read(b)
	var l []api.Given
	for range r.In(0, maxAttrs) {
		g := given(r.In(1, 4), r.Text(maxName))
		for range r.In(0, maxBag) {
			g.Bag = append(g.Bag, value.Get(r))
		}
		l = append(l, g)
	}
	if r.End() != api.OK {
		t.Fatalf("% x: wrong at %d", b, r.At())
	}
	return l
}

// What can be read from the bytes is in no other request.
func TestBytesAreRead(t *testing.T) {
	for i := range 5000 {
		m := maker{x: uint64(i)}
		l := m.right(28)
		are(t, "read", read(t, ask.Put(l)), sorted(l))
	}
	for n := range maxAttrs + 1 {
		l := many(n)
		are(t, "read", read(t, ask.Put(l)), sorted(l))
	}
}

// unlike are a request with one thing changed, in each way there is at each place.
func unlike(l []api.Given, yield func(what string, l []api.Given)) {
	changed := func(what string, i int, put func(g *api.Given)) {
		other := slices.Clone(l)
		other[i].Bag = slices.Clone(other[i].Bag)
		put(&other[i])
		yield(what, other)
	}
	for i, g := range l {
		yield("one fewer", slices.Concat(l[:i], l[i+1:]))
		for _, cat := range cats() {
			changed("another Cat", i, func(g *api.Given) { g.Cat = cat })
			yield("one more", append(slices.Clone(l), given(cat, "more")))
			yield("one more of a bag", append(slices.Clone(l), given(cat, g.Name, g.Bag...)))
		}
		for _, name := range append(few(), g.Name+"a", g.Name+"0", g.Name[:len(g.Name)-1]) {
			changed("another Name", i, func(g *api.Given) { g.Name = name })
		}
		changed("no values", i, func(g *api.Given) { g.Bag = nil })
		for _, v := range slices.Concat(likes()...) {
			changed("one value more", i, func(g *api.Given) { g.Bag = append(g.Bag, v) })
			for k := range g.Bag {
				changed("another value", i, func(g *api.Given) { g.Bag[k] = v })
			}
		}
		for k := range g.Bag {
			changed("one value fewer", i, func(g *api.Given) { g.Bag = slices.Delete(g.Bag, k, k+1) })
			changed("two values exchanged", i, func(g *api.Given) { g.Bag[k], g.Bag[0] = g.Bag[0], g.Bag[k] })
		}
		for k := range l {
			other := slices.Clone(l)
			other[i].Bag, other[k].Bag = l[k].Bag, l[i].Bag
			yield("two bags exchanged", other)
			other = slices.Clone(l)
			other[i].Name, other[k].Name = l[k].Name, l[i].Name
			yield("two names exchanged", other)
		}
	}
}

func TestUnlikeOnesHaveOtherBytes(t *testing.T) {
	counts := map[string]int{}
	for i := range 100 {
		m := maker{x: uint64(i)}
		l := m.right(6)
		b := ask.Put(l)
		unlike(l, func(what string, other []api.Given) {
			if ask.Right(other) != api.OK {
				return
			}
			alike := slices.EqualFunc(sorted(l), sorted(other), same)
			if alike != bytes.Equal(b, ask.Put(other)) {
				t.Fatalf("%s: %+v and %+v: % x", what, l, other, b)
			}
			if !alike {
				counts[what]++
			}
		})
	}
	for _, what := range []string{"one fewer", "one more", "one more of a bag", "another Cat", "another Name", "no values", "one value more", "another value", "one value fewer", "two values exchanged", "two bags exchanged", "two names exchanged"} {
		if counts[what] == 0 {
			t.Errorf("%s: never right and unlike", what)
		}
	}
}

// All small requests of a few parts, in all orders: their bytes meet just where they differ in their order alone.
func TestSmallRequests(t *testing.T) {
	var parts []api.Given
	for _, cat := range []int{1, 2} {
		for _, name := range []string{"a", "b", "aa"} {
			for _, bag := range [][]api.Value{nil, {whole(1)}, {text("a")}, {whole(1), whole(1)}} {
				parts = append(parts, given(cat, name, bag...))
			}
		}
	}
	met := map[string][]api.Given{}
	asked := 0
	var walk func(l []api.Given)
	walk = func(l []api.Given) {
		if ask.Right(l) != api.OK {
			return
		}
		asked++
		b := string(ask.Put(l))
		if other, found := met[b]; found {
			are(t, "of the same bytes", sorted(l), sorted(other))
		} else {
			met[b] = l
		}
		for _, g := range parts {
			if len(l) < 3 {
				walk(append(slices.Clone(l), g))
			}
		}
	}
	walk(nil)
	// None, one, two and three of six attributes, each of four bags.
	sets, rows := 1+6*4+15*16+20*64, 1+6*4+30*16+120*64
	if len(met) != sets || asked != rows {
		t.Errorf("%d of %d, not %d of %d", len(met), asked, sets, rows)
	}
}
