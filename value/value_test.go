package value_test

import (
	"bytes"
	"fmt"
	"math"
	"math/big"
	"regexp"
	"slices"
	"strconv"
	"strings"
	"testing"

	"bailiff/api"
	"bailiff/pack"
	"bailiff/value"
)

// The limits as the document's page has them.
const (
	maxName = 16
	maxText = 64
	maxBag  = 16
	maxTick = 1 << 40
)

var named = regexp.MustCompile(`\A[a-z][a-z0-9_]{0,15}\z`)

func boolean(n int) api.Value { return api.Value{Kind: api.KBool, N: n} }
func whole(n int) api.Value   { return api.Value{Kind: api.KInt, N: n} }
func text(s string) api.Value { return api.Value{Kind: api.KText, S: s} }
func tick(n int) api.Value    { return api.Value{Kind: api.KTick, N: n} }
func id(s string) api.Value   { return api.Value{Kind: api.KId, S: s} }

// rightly tells from the words of P3.2 whether a value is right.
func rightly(v api.Value) bool {
	switch v.Kind {
	case 1:
		return v == api.Value{Kind: 1} || v == api.Value{Kind: 1, N: 1}
	case 2:
		return v == api.Value{Kind: 2, N: v.N}
	case 3:
		return v == api.Value{Kind: 3, S: v.S} && len(v.S) < maxText+1
	case 4:
		return v == api.Value{Kind: 4, N: v.N} && -1 < v.N && v.N < maxTick+1
	case 5:
		return v == api.Value{Kind: 5, S: v.S} && named.MatchString(v.S)
	}
	return false
}

// kinds are all that there are, and those beside and far from them.
func kinds() []int {
	return []int{1, 2, 3, 4, 5, 0, 6, 7, -1, -2, -3, -5, 257, 258, 259, 260, 261, 1<<32 + 3, 1<<32 + 5, math.MinInt, math.MinInt + 2, math.MaxInt}
}

// numbers are those at and beside each bound, and at the edges of the integer kinds.
func numbers() []int {
	l := []int{0, 1, 2, 3, -1, -2, -7, 5, 9, 10, 11, 99, 100, -100, 63, 64, 65, 127, 128, 255, 256, 257, -255, -256}
	for _, k := range []int{15, 16, 31, 32, 39, 40, 41, 62} {
		l = append(l, 1<<k-1, 1<<k, 1<<k+1, -1<<k-1, -1<<k, -1<<k+1)
	}
	return append(l, math.MaxInt-1, math.MaxInt, math.MinInt, math.MinInt+1)
}

// texts are names and what is nearly one, texts at and beside the limits, each byte alone and behind a letter, and what other values look like.
func texts() []string {
	l := []string{"", "ann", "a_9", "a__", "a9z", "z", "ab", "abc", "b", "Ann", "9a", "_a", "a-b", "a b", " a", "a ", "a\n", "\na", "a\x00", "ä", "aä", "a.b"}
	for _, n := range []int{15, maxName, maxName + 1, 63, maxText, maxText + 1, 127, 128, 300} {
		l = append(l, strings.Repeat("a", n), strings.Repeat("\xff", n), strings.Repeat(`"`, n), strings.Repeat(" ", n-1)+"z", strings.Repeat("a", n-1)+"_")
	}
	l = append(l, "abcdefghijklmnop", "qrstuvwxyz012345", "a0123456789_____", "abcdefghijklmnopq", strings.Repeat("ä", 8), strings.Repeat("ä", 32), strings.Repeat("ä", 32)+"a")
	for c := range 256 {
		l = append(l, string([]byte{byte(c)}), string([]byte{'a', byte(c)}))
	}
	l = append(l, "true", "false", "0", "-7", "@5", "#ann", `"`, `""`, `a"b`, `a\22b`, `\`, `\\`, `\22`, `\5c22`, `"ann"`, "\\\x00", "\x00\x00", "00", "2", "10")
	slices.Sort(l)
	return slices.Compact(l)
}

// values are those of all kinds, with all numbers and texts: right and wrong ones.
func values() []api.Value {
	var l []api.Value
	for _, kind := range kinds() {
		for _, n := range numbers() {
			l = append(l, api.Value{Kind: kind, N: n})
			for _, s := range []string{"a", "\x00", "ann", strings.Repeat("a", maxText+1)} {
				l = append(l, api.Value{Kind: kind, N: n, S: s})
			}
		}
		for _, s := range texts() {
			if s != "" {
				l = append(l, api.Value{Kind: kind, S: s}, api.Value{Kind: kind, S: s, N: 1}, api.Value{Kind: kind, S: s, N: -1})
			}
		}
	}
	return l
}

// rights and wrongs part all the values; no value stands twice in them.
func rights() []api.Value {
	var l []api.Value
	seen := map[api.Value]bool{}
	for _, v := range values() {
		if rightly(v) && !seen[v] {
			l = append(l, v)
		}
		seen[v] = true
	}
	return l
}

func wrongs() []api.Value {
	return slices.DeleteFunc(values(), rightly)
}

// few are some right values of each kind.
func few() []api.Value {
	return []api.Value{
		boolean(0), boolean(1), whole(0), whole(1), whole(-7), whole(math.MinInt), whole(math.MaxInt), whole(1 << 40),
		text(""), text("a"), text("ann"), text("1"), text("true"), text(strings.Repeat("\xff", maxText)),
		tick(0), tick(1), tick(5), tick(maxTick), id("a"), id("ann"), id("true"), id("abcdefghijklmnop"),
	}
}

// poor are some wrong values, each for a reason of its own.
func poor() []api.Value {
	return []api.Value{
		{}, {Kind: 6}, {Kind: -1}, {Kind: 9, N: 9, S: "a"}, boolean(2), boolean(-1), {Kind: api.KBool, S: "x"}, {Kind: api.KInt, S: "x"},
		{Kind: api.KText, N: 1}, text(strings.Repeat("a", maxText+1)), tick(-1), tick(maxTick + 1), {Kind: api.KTick, S: "x"},
		id(""), id("Ann"), id("abcdefghijklmnopq"), {Kind: api.KId, S: "a", N: 1},
	}
}

// P3.1

func TestNameLengths(t *testing.T) {
	for n := range 300 {
		want := n >= 1 && n <= maxName
		for _, s := range []string{strings.Repeat("a", n), strings.Repeat("z", n)} {
			if value.Name(s) != want {
				t.Errorf("%d letters: %v", n, !want)
			}
		}
		if n > 0 && value.Name("a"+strings.Repeat("_", n-1)) != want {
			t.Errorf("%d bytes, with _ at the end: %v", n, !want)
		}
	}
	if value.Name(strings.Repeat("a", 1<<20)) || value.Name(strings.Repeat("a", 256)) {
		t.Error("a long one is a name")
	}
}

func TestNameBytes(t *testing.T) {
	for c := range 256 {
		one := string([]byte{byte(c)})
		for place := range maxName {
			s := "abcdefghijklmnop"[:place] + one + "abcdefghijklmnop"[place+1:]
			if got := value.Name(s); got != named.MatchString(s) {
				t.Errorf("%q: %v", s, got)
			}
		}
		for _, s := range []string{one, one + "a", "a" + one, one + one, "a" + one + "a"} {
			if got := value.Name(s); got != named.MatchString(s) {
				t.Errorf("%q: %v", s, got)
			}
		}
	}
}

func TestNameIsAsTold(t *testing.T) {
	of := []byte{'a', 'm', 'z', '0', '9', '_', 'A', 'Z', '`', '{', '/', ':', '^', '-', ' ', 0, 0x7F, 0x80, 0xFF}
	each(3, of, func(b []byte) {
		if got := value.Name(string(b)); got != named.MatchString(string(b)) {
			t.Errorf("%q: %v", b, got)
		}
	})
	for _, s := range texts() {
		if got := value.Name(s); got != named.MatchString(s) {
			t.Errorf("%q: %v", s, got)
		}
	}
	for s, want := range map[string]bool{
		"a": true, "ann": true, "a_9": true, "a1_": true, "a__": true, "abcdefghijklmnop": true, "a012345678901234": true,
		"": false, "1a": false, "_": false, "_a": false, "aB": false, "a b": false, "ä": false, "aä": false, "abcdefghijklmnopq": false, "0123456789012345": false,
	} {
		if value.Name(s) != want {
			t.Errorf("%q: %v", s, !want)
		}
	}
}

// each calls f with every text of so many bytes at most, of the bytes given.
func each(most int, of []byte, f func(b []byte)) {
	var walk func(b []byte)
	walk = func(b []byte) {
		f(b)
		if len(b) == most {
			return
		}
		for _, c := range of {
			walk(append(b[:len(b):len(b)], c))
		}
	}
	walk(nil)
}

// P3.2

func TestRightOfEachKind(t *testing.T) {
	for _, v := range few() {
		if !value.Right(v) {
			t.Errorf("%+v isn't right", v)
		}
	}
	for _, v := range poor() {
		if value.Right(v) {
			t.Errorf("%+v is right", v)
		}
	}
}

func TestRightIsAsTold(t *testing.T) {
	for _, v := range values() {
		if got := value.Right(v); got != rightly(v) {
			t.Errorf("%+v: %v", v, got)
		}
	}
}

func TestRightTextLengths(t *testing.T) {
	for n := range 300 {
		for _, c := range []string{"a", "\x00", "\xff", `"`} {
			v := text(strings.Repeat(c, n))
			if got := value.Right(v); got != (n <= maxText) {
				t.Errorf("%d of %q: %v", n, c, got)
			}
		}
		v := id("a" + strings.Repeat("9", n))
		if got := value.Right(v); got != (n+1 <= maxName) {
			t.Errorf("an id of %d: %v", n+1, got)
		}
	}
}

func TestBagLengths(t *testing.T) {
	for _, v := range few() {
		for n := range 40 {
			l := slices.Repeat([]api.Value{v}, n)
			if got := value.Bag(l); got != (n <= maxBag) {
				t.Errorf("%d of %+v: %v", n, v, got)
			}
		}
	}
	if !value.Bag(nil) || !value.Bag([]api.Value{}) || !value.Bag(few()[:0]) {
		t.Error("no values are no bag")
	}
	if value.Bag(slices.Repeat([]api.Value{whole(1)}, 1<<16)) {
		t.Error("many values are a bag")
	}
}

func TestBagOfRightValues(t *testing.T) {
	for _, bad := range poor() {
		if value.Bag([]api.Value{bad}) || value.Bag([]api.Value{bad, bad}) {
			t.Errorf("%+v is in a bag", bad)
		}
		for _, good := range few() {
			for place := range maxBag {
				l := slices.Repeat([]api.Value{good}, maxBag)
				l[place] = bad
				if value.Bag(l) {
					t.Errorf("%+v at %d among %+v", bad, place, good)
				}
			}
		}
	}
}

func TestBagOfOneKind(t *testing.T) {
	for _, v := range few() {
		for _, w := range few() {
			for n := 2; n <= maxBag; n++ {
				for place := range n {
					l := slices.Repeat([]api.Value{v}, n)
					l[place] = w
					if got := value.Bag(l); got != (v.Kind == w.Kind) {
						t.Errorf("%+v at %d among %d of %+v: %v", w, place, n, v, got)
					}
				}
			}
		}
	}
}

func TestHas(t *testing.T) {
	all := append(few(), poor()...)
	for i, v := range all {
		if !value.Has(all, v) || !value.Has([]api.Value{v}, v) || value.Has(nil, v) || value.Has([]api.Value{}, v) {
			t.Errorf("%+v", v)
		}
		if value.Has(append(slices.Clone(all[:i]), all[i+1:]...), v) {
			t.Errorf("%+v is among the others", v)
		}
		for _, w := range []api.Value{{Kind: v.Kind + 1, N: v.N, S: v.S}, {Kind: v.Kind, N: v.N ^ 1, S: v.S}, {Kind: v.Kind, N: v.N, S: v.S + "a"}} {
			if value.Has([]api.Value{w}, v) || value.Has([]api.Value{v}, w) {
				t.Errorf("%+v is taken for %+v", w, v)
			}
		}
	}
}

func TestHasAtEachPlace(t *testing.T) {
	for n := 1; n <= 40; n++ {
		for place := range n {
			l := slices.Repeat([]api.Value{whole(1)}, n)
			l[place] = whole(2)
			if !value.Has(l, whole(2)) || value.Has(l, whole(3)) || value.Has(l, tick(2)) || value.Has(l, text("2")) || value.Has(l, id("")) {
				t.Errorf("at %d of %d", place, n)
			}
		}
	}
}

func TestHasHoldsTextsByTheirBytes(t *testing.T) {
	long := strings.Repeat("a", maxText)
	l := []api.Value{text(strings.Clone(long)), text("ä"), id("ann")}
	if !value.Has(l, text(long)) || !value.Has(l, text("\xc3\xa4")) || value.Has(l, text(long[1:])) || value.Has(l, text("a\u0308")) || value.Has(l, text("ann")) {
		t.Error("texts")
	}
}

func TestListsStayAsTheyWere(t *testing.T) {
	for n := range maxBag + 1 {
		room := append(slices.Repeat([]api.Value{whole(4)}, n), boolean(7), text("room"), tick(-1))
		before := slices.Clone(room)
		l := room[:n]
		if !value.Bag(l) || value.Has(l, text("room")) || value.Has(l, boolean(7)) || value.Has(l, whole(4)) != (n > 0) {
			t.Errorf("%d: the room behind counts", n)
		}
		if !slices.Equal(room, before) {
			t.Errorf("%d: what was handed in is now %+v", n, room)
		}
	}
}

// P3.3

func TestLessRuns(t *testing.T) {
	for i, c := range []struct {
		a, b api.Value
		less bool
		err  api.Errno
	}{
		{whole(2), whole(10), true, api.OK}, {text("2"), text("10"), false, api.OK}, {whole(2), tick(10), false, api.ErrType},
		{whole(10), whole(2), false, api.OK}, {whole(2), whole(2), false, api.OK}, {text("10"), text("2"), true, api.OK},
		{whole(math.MinInt), whole(math.MaxInt), true, api.OK}, {whole(math.MaxInt), whole(math.MinInt), false, api.OK},
		{whole(-1), whole(0), true, api.OK}, {tick(0), tick(maxTick), true, api.OK}, {tick(maxTick), tick(maxTick), false, api.OK},
		{text(""), text(""), false, api.OK}, {text(""), text("\x00"), true, api.OK}, {text("a"), text("aa"), true, api.OK},
		{text("Z"), text("a"), true, api.OK}, {text("\x7f"), text("\x80"), true, api.OK}, {text("\xff"), text("ä"), false, api.OK},
		{text("b"), text("aa"), false, api.OK}, {text("\xc3"), text("ä"), true, api.OK}, {text("\uffff"), text("\U00010000"), true, api.OK},
		{id("a"), id("b"), true, api.OK}, {id("a9"), id("a_"), true, api.OK}, {id("a_"), id("aa"), true, api.OK}, {id("b"), id("aa"), false, api.OK},
		{id("a"), text("b"), false, api.ErrType}, {text("a"), id("b"), false, api.ErrType}, {tick(1), whole(2), false, api.ErrType},
		{boolean(0), boolean(1), false, api.ErrType}, {boolean(1), boolean(1), false, api.ErrType}, {boolean(0), whole(1), false, api.ErrType}, {whole(0), boolean(1), false, api.ErrType},
		{boolean(2), boolean(1), false, api.ErrArg}, {boolean(1), boolean(2), false, api.ErrArg}, {tick(-1), whole(1), false, api.ErrArg}, {whole(1), tick(maxTick + 1), false, api.ErrArg},
		{api.Value{}, api.Value{}, false, api.ErrArg}, {api.Value{Kind: 6}, api.Value{Kind: 6, N: 1}, false, api.ErrArg}, {id(""), id("a"), false, api.ErrArg}, {id("a"), id("B"), false, api.ErrArg},
		{text(strings.Repeat("a", maxText)), text(strings.Repeat("a", maxText-1) + "b"), true, api.OK}, {text("a"), text(strings.Repeat("b", maxText+1)), false, api.ErrArg},
	} {
		if less, err := value.Less(c.a, c.b); less != c.less || err != c.err {
			t.Errorf("%d: %+v, %+v: %v, %d", i, c.a, c.b, less, err)
		}
	}
}

// told reckons Less from the words of P3.3, with numbers of any size and bytes.
func told(a, b api.Value) (bool, api.Errno) {
	switch {
	case !rightly(a), !rightly(b):
		return false, api.ErrArg
	case a.Kind != b.Kind, a.Kind == 1:
		return false, api.ErrType
	case a.Kind == 3, a.Kind == 5:
		return bytes.Compare([]byte(a.S), []byte(b.S)) == -1, api.OK
	}
	return big.NewInt(int64(a.N)).Cmp(big.NewInt(int64(b.N))) == -1, api.OK
}

func TestLessIsAsTold(t *testing.T) {
	l := append(rights(), poor()...)
	for _, a := range l {
		for _, b := range l {
			less, err := value.Less(a, b)
			if x, y := told(a, b); less != x || err != y {
				t.Fatalf("%+v, %+v: %v, %d, want %v, %d", a, b, less, err, x, y)
			}
		}
	}
}

func TestLessRefusesWrongValuesFirst(t *testing.T) {
	for _, bad := range wrongs() {
		for _, other := range []api.Value{boolean(1), whole(3), text("a"), tick(3), id("a"), bad, {}} {
			if less, err := value.Less(bad, other); less || err != api.ErrArg {
				t.Errorf("%+v, %+v: %v, %d", bad, other, less, err)
			}
			if less, err := value.Less(other, bad); less || err != api.ErrArg {
				t.Errorf("%+v, %+v: %v, %d", other, bad, less, err)
			}
		}
	}
}

// P3.4

func TestPutBytes(t *testing.T) {
	for _, c := range []struct {
		v api.Value
		b string
	}{
		{boolean(0), "\x02\x00"}, {boolean(1), "\x02\x02"}, {whole(0), "\x04\x00"}, {whole(-1), "\x04\x01"}, {whole(-7), "\x04\x0d"}, {whole(64), "\x04\x80\x01"},
		{whole(math.MinInt), "\x04\xff\xff\xff\xff\xff\xff\xff\xff\xff\x01"}, {whole(math.MaxInt), "\x04\xfe\xff\xff\xff\xff\xff\xff\xff\xff\x01"},
		{text(""), "\x06\x00"}, {text("ab"), "\x06\x04ab"}, {text("\x00\xff"), "\x06\x04\x00\xff"}, {text(strings.Repeat("x", maxText)), "\x06\x80\x01" + strings.Repeat("x", maxText)},
		{tick(0), "\x08\x00"}, {tick(5), "\x08\x0a"}, {tick(maxTick), "\x08\x80\x80\x80\x80\x80\x40"},
		{id("ann"), "\x0a\x06ann"}, {id("abcdefghijklmnop"), "\x0a\x20abcdefghijklmnop"},
	} {
		if b := value.Put(nil, c.v); string(b) != c.b {
			t.Errorf("%+v: % x", c.v, b)
		}
	}
}

func TestPutIsAsTold(t *testing.T) {
	for _, v := range rights() {
		for _, ahead := range [][]byte{nil, {}, {9}, []byte("ahead of it"), bytes.Repeat([]byte{0x80}, 70)} {
			want := pack.Num(ahead, v.Kind)
			if v.Kind == api.KText || v.Kind == api.KId {
				want = pack.Text(want, v.S)
			} else {
				want = pack.Num(want, v.N)
			}
			if b := value.Put(ahead, v); !bytes.Equal(b, want) {
				t.Fatalf("%+v behind % x: % x, want % x", v, ahead, b, want)
			}
		}
	}
}

func TestPutMakesNewMemory(t *testing.T) {
	for _, v := range append(few(), poor()...) {
		room := bytes.Repeat([]byte{9}, 200)
		before := bytes.Clone(room)
		first := value.Put(room[:3], v)
		kept := bytes.Clone(first)
		second := value.Put(room[:3], v)
		if !bytes.Equal(room, before) {
			t.Errorf("%+v: what was handed in is changed", v)
		}
		if !bytes.Equal(first, second) {
			t.Errorf("%+v: % x, then % x", v, first, second)
		}
		clear(second[:cap(second)])
		if !bytes.Equal(first, kept) || !bytes.Equal(room, before) {
			t.Errorf("%+v: an answer shares memory", v)
		}
		clear(room)
		if !bytes.Equal(first, kept) {
			t.Errorf("%+v: what was handed in is kept", v)
		}
	}
}

func TestPutOfWrongValuesEnds(t *testing.T) {
	for _, v := range append(wrongs(), text(strings.Repeat("a", 1<<20)), id(strings.Repeat("a", 1<<20))) {
		if !bytes.Equal(value.Put([]byte{1, 2}, v), value.Put([]byte{1, 2}, v)) {
			t.Errorf("%+v has two rows of bytes", v)
		}
	}
}

// P3.5

// sameGet tells what is amiss with a reading of b, behind ahead: it should be want, and the reader at a place with this wrong.
func sameGet(t *testing.T, ahead int, b []byte, want api.Value, at int, wrong api.Errno) {
	t.Helper()
	r := pack.Read(append(bytes.Repeat([]byte{6}, ahead), b...))
	for range ahead {
		r.Num()
	}
	if v := value.Get(r); v != want {
		t.Errorf("% x: %+v, want %+v", b, v, want)
	}
	if r.At() != ahead+at || r.Wrong() != wrong {
		t.Errorf("% x behind %d: at %d, wrong %d, want %d, %d", b, ahead, r.At(), r.Wrong(), ahead+at, wrong)
	}
	if wrong == api.OK {
		return
	}
	if v := value.Get(r); v != (api.Value{}) || r.Num() != 0 || r.At() != ahead+at || r.End() != api.ErrForm {
		t.Errorf("% x behind %d: behind what is wrong: %+v", b, ahead, v)
	}
}

func TestGetWhatWasPut(t *testing.T) {
	for _, v := range rights() {
		b := value.Put(nil, v)
		sameGet(t, 0, b, v, len(b), api.OK)
		sameGet(t, 3, b, v, len(b), api.OK)
		sameGet(t, 0, append(bytes.Clone(b), 255), v, len(b), api.OK)
		sameGet(t, 2, append(bytes.Clone(b), b...), v, len(b), api.OK)
	}
}

func TestGetARow(t *testing.T) {
	l := rights()
	var b []byte
	for _, v := range l {
		b = append(b, value.Put(nil, v)...)
	}
	r := pack.Read(b)
	for i, want := range l {
		if v := value.Get(r); v != want || r.Wrong() != api.OK {
			t.Fatalf("value %d: %+v, want %+v, wrong %d", i, v, want, r.Wrong())
		}
	}
	if r.End() != api.OK {
		t.Errorf("end: %d at %d", r.End(), r.At())
	}
	if v := value.Get(r); v != (api.Value{}) || r.Wrong() != api.ErrForm || r.At() != len(b) {
		t.Errorf("behind the end: %+v at %d", v, r.At())
	}
}

func TestGetCutShort(t *testing.T) {
	for _, v := range rights() {
		b := value.Put(nil, v)
		for k := range b {
			// The kind is one byte: what is wrong begins with it, if it isn't there, else behind it.
			at := min(k, 1)
			sameGet(t, 0, b[:k], api.Value{}, at, api.ErrForm)
			sameGet(t, 5, b[:k], api.Value{}, at, api.ErrForm)
		}
	}
}

func TestGetOfNoRightValue(t *testing.T) {
	long := func(n int) []byte { return pack.Text(nil, strings.Repeat("a", n)) }
	for name, c := range map[string]struct {
		b  []byte
		at int
	}{
		"bool 2": {[]byte{2, 4}, 0}, "bool -1": {[]byte{2, 1}, 0}, "bool great": {append([]byte{2}, pack.Num(nil, math.MaxInt)...), 0},
		"tick -1": {[]byte{8, 1}, 0}, "tick one more": {append([]byte{8}, pack.Num(nil, maxTick+1)...), 0}, "tick least": {append([]byte{8}, pack.Num(nil, math.MinInt)...), 0}, "tick great": {append([]byte{8}, pack.Num(nil, math.MaxInt)...), 0},
		"id of none": {[]byte{10, 0}, 0}, "id A": {[]byte{10, 2, 'A'}, 0}, "id 9": {[]byte{10, 2, '9'}, 0}, "id one more": {append([]byte{10}, long(maxName+1)...), 0}, "id of 64": {append([]byte{10}, long(maxText)...), 0},
		"id of 65": {append([]byte{10}, long(maxText+1)...), 1}, "text one more": {append([]byte{6}, long(maxText+1)...), 1}, "text far more": {append([]byte{6}, long(5000)...), 1},
		"kind 0": {[]byte{0, 0}, 0}, "kind 6": {[]byte{12, 0}, 0}, "kind -1": {[]byte{1, 0}, 0}, "kind -3": {[]byte{5, 2, 'a'}, 0}, "kind 64": {[]byte{128, 1, 0}, 0},
		"kind 259": {append(pack.Num(nil, 259), 2, 'a'), 0}, "kind great": {append(pack.Num(nil, math.MaxInt), 0), 0}, "kind needless": {[]byte{130, 0, 0}, 0}, "no kind": {bytes.Repeat([]byte{128}, 20), 0}, "nothing": {nil, 0},
		"kind 0 alone": {[]byte{0}, 0}, "kind 0 of no number": {[]byte{0, 128}, 0}, "kind 6 alone": {[]byte{12}, 0}, "kind 6 of no number": {[]byte{12, 128, 0}, 0}, "kind 7 of no number": {[]byte{14, 255}, 0}, "kind -1 alone": {[]byte{1}, 0},
		"number needless": {[]byte{4, 130, 0}, 1}, "number too long": {append([]byte{4}, bytes.Repeat([]byte{255}, 12)...), 1}, "tick needless": {[]byte{8, 128, 0}, 1}, "bool needless": {[]byte{2, 130, 0}, 1}, "bool without": {[]byte{2}, 1},
		"length needless": {[]byte{6, 130, 0, 'a'}, 1}, "length -1": {[]byte{6, 1, 'a'}, 1}, "id's length -1": {[]byte{10, 1, 'a'}, 1}, "length great": {append([]byte{6}, pack.Num(nil, math.MaxInt)...), 1}, "a byte missing": {[]byte{6, 4, 'a'}, 1},
	} {
		for _, ahead := range []int{0, 1, 7} {
			t.Run(name, func(t *testing.T) { sameGet(t, ahead, c.b, api.Value{}, c.at, api.ErrForm) })
		}
	}
}

func TestGetBehindOtherValues(t *testing.T) {
	for _, first := range few() {
		ahead := value.Put(nil, first)
		for _, bad := range [][]byte{{2, 4}, {8, 1}, {10, 2, 'A'}, {12, 0}, {0, 0}, {255}, {}} {
			r := pack.Read(append(bytes.Clone(ahead), bad...))
			if v := value.Get(r); v != first {
				t.Errorf("%+v, want %+v", v, first)
			}
			if v := value.Get(r); v != (api.Value{}) || r.Wrong() != api.ErrForm || r.At() != len(ahead) {
				t.Errorf("% x behind %+v: %+v at %d", bad, first, v, r.At())
			}
		}
		r := pack.Read(append(bytes.Clone(ahead), 4, 128))
		value.Get(r)
		if v := value.Get(r); v != (api.Value{}) || r.Wrong() != api.ErrForm || r.At() != len(ahead)+1 {
			t.Errorf("behind %+v: %+v at %d", first, v, r.At())
		}
	}
}

func TestGetOfAReaderThatIsWrong(t *testing.T) {
	for _, next := range few() {
		b := append([]byte{2, 4}, value.Put(nil, next)...)
		for at := range 3 {
			r := pack.Read(b)
			r.Num()
			r.Num()
			r.Fail(at)
			for range 2 {
				if v := value.Get(r); v != (api.Value{}) || r.Wrong() != api.ErrForm || r.At() != at {
					t.Errorf("wrong at %d: %+v at %d", at, v, r.At())
				}
			}
		}
	}
}

// onlyOwn tells of bytes that are read as a value, though its own bytes are others.
func onlyOwn(t *testing.T, b []byte) {
	r := pack.Read(b)
	v := value.Get(r)
	if r.Wrong() != api.OK {
		if v != (api.Value{}) || r.At() > 1 {
			t.Errorf("% x: wrong at %d, and %+v", b, r.At(), v)
		}
		return
	}
	if !rightly(v) || !bytes.Equal(value.Put(nil, v), b[:r.At()]) {
		t.Errorf("% x is read as %+v", b, v)
	}
}

func TestNothingElseIsRead(t *testing.T) {
	every := make([]byte, 256)
	for i := range every {
		every[i] = byte(i)
	}
	each(2, every, func(b []byte) { onlyOwn(t, b) })
	for kind := range byte(14) {
		each(2, every, func(b []byte) { onlyOwn(t, append([]byte{kind}, b...)) })
		each(5, []byte{0, 1, 2, 4, 'a', '9', 127, 128, 255}, func(b []byte) { onlyOwn(t, append([]byte{kind}, b...)) })
	}
}

// P3.6

func TestTextRuns(t *testing.T) {
	for want, v := range map[string]api.Value{
		"-7": whole(-7), "@5": tick(5), "#ann": id("ann"), `"a\22b"`: text(`a"b`),
		"true": boolean(1), "false": boolean(0), "0": whole(0), "10": whole(10), "-1": whole(-1), "1099511627777": whole(maxTick + 1),
		"9223372036854775807": whole(math.MaxInt), "-9223372036854775808": whole(math.MinInt), "@0": tick(0), "@1099511627776": tick(maxTick),
		"#a": id("a"), "#abcdefghijklmnop": id("abcdefghijklmnop"), "#true": id("true"), "#a_9": id("a_9"),
		`""`: text(""), `"ann"`: text("ann"), `"true"`: text("true"), `"#ann"`: text("#ann"), `"\5c"`: text(`\`), `"\5c22"`: text(`\22`), `"\22\22"`: text(`""`),
		`" ~!#[]"`: text(" ~!#[]"), `"\00\1f\7f\80\ff"`: text("\x00\x1f\x7f\x80\xff"), `"\c3\a4"`: text("ä"), `"\0a\0d\09"`: text("\n\r\t"), `"'%\ef\bf\bd"`: text("'%\ufffd"),
	} {
		if got := value.Text(v); got != want {
			t.Errorf("%+v: %s, want %s", v, got, want)
		}
	}
	if got := value.Text(text(strings.Repeat("\xff", maxText))); got != `"`+strings.Repeat(`\ff`, maxText)+`"` {
		t.Errorf("a long one: %s", got)
	}
}

func TestTextOfEachByte(t *testing.T) {
	for c := range 256 {
		shown := string([]byte{byte(c)})
		if c < 32 || c > 126 || c == 34 || c == 92 {
			shown = fmt.Sprintf(`\%02x`, c)
		}
		one := string([]byte{byte(c)})
		for s, want := range map[string]string{
			one: `"` + shown + `"`, one + one: `"` + shown + shown + `"`, "a" + one + "f": `"a` + shown + `f"`,
			strings.Repeat(one, maxText): `"` + strings.Repeat(shown, maxText) + `"`,
		} {
			if got := value.Text(text(s)); got != want {
				t.Errorf("%q: %s, want %s", s, got, want)
			}
		}
	}
}

func TestTextOfWrongValues(t *testing.T) {
	for _, v := range wrongs() {
		if got := value.Text(v); got != "" {
			t.Errorf("%+v: %q", v, got)
		}
	}
}

func TestTextIsPlain(t *testing.T) {
	for _, v := range rights() {
		s := value.Text(v)
		if s == "" || strings.ContainsFunc(s, func(c rune) bool { return c < 32 || c > 126 }) {
			t.Errorf("%+v: %q", v, s)
		}
	}
}

// P3.7

// back takes a value's text apart: what it makes of the text hangs on P3.6's words alone.
func back(s string) (api.Value, error) {
	if s == "true" || s == "false" {
		return boolean(strings.Count("true", s)), nil
	}
	switch s[0] {
	case '@':
		n, err := strconv.Atoi(s[1:])
		return tick(n), err
	case '#':
		return id(s[1:]), nil
	case '"':
		parts := strings.Split(s[1:len(s)-1], `\`)
		out := parts[0]
		for _, part := range parts[1:] {
			c, err := strconv.ParseUint(part[:2], 16, 8)
			if err != nil {
				return api.Value{}, err
			}
			out += string([]byte{byte(c)}) + part[2:]
		}
		return text(out), nil
	}
	n, err := strconv.Atoi(s)
	return whole(n), err
}

func TestTextsCanBeTakenApart(t *testing.T) {
	for _, v := range rights() {
		if w, err := back(value.Text(v)); w != v || err != nil {
			t.Errorf("%+v has the text %s, which is that of %+v (%v)", v, value.Text(v), w, err)
		}
	}
}

func TestValuesHaveTextsAndBytesOfTheirOwn(t *testing.T) {
	shown, put := map[string]api.Value{}, map[string]api.Value{}
	for _, v := range rights() {
		s, b := value.Text(v), string(value.Put(nil, v))
		if w, ok := shown[s]; ok {
			t.Errorf("%+v and %+v have the text %s", v, w, s)
		}
		if w, ok := put[b]; ok {
			t.Errorf("%+v and %+v have the bytes % x", v, w, b)
		}
		shown[s], put[b] = v, v
	}
}

func TestTheSameValueHasTheSameTextAndBytes(t *testing.T) {
	for _, v := range rights() {
		w := api.Value{Kind: v.Kind, N: v.N, S: strings.Clone(v.S)}
		if value.Text(v) != value.Text(w) || !bytes.Equal(value.Put(nil, v), value.Put(nil, w)) {
			t.Errorf("%+v has two texts, or two rows of bytes", v)
		}
	}
}

func TestRowsHaveBytesOfTheirOwn(t *testing.T) {
	seen := map[string][]api.Value{}
	l := append(few(), text("\x00"), text("\x04\x02"), text("\x06\x00"), text("a\x06\x00"), whole(3), tick(3))
	for _, a := range l {
		for _, b := range l {
			row := []api.Value{a, b}
			key := string(value.Put(value.Put(nil, a), b))
			if other, ok := seen[key]; ok {
				t.Errorf("%+v and %+v have the bytes % x", row, other, key)
			}
			seen[key] = row
		}
	}
}
