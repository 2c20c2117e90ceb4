package pack_test

import (
	"bytes"
	"fmt"
	"math"
	"math/big"
	"slices"
	"strings"
	"testing"

	"bailiff/api"
	"bailiff/pack"
)

// told reckons Num's bytes from the words of P1.1, with numbers of any size.
func told(n int) []byte {
	u := big.NewInt(int64(n))
	if n < 0 {
		u.Not(u)
	}
	u.Mul(u, big.NewInt(2))
	if n < 0 {
		u.Add(u, big.NewInt(1))
	}
	var b []byte
	for {
		var piece big.Int
		u.DivMod(u, big.NewInt(128), &piece)
		if u.Sign() == 0 {
			return append(b, byte(piece.Int64()))
		}
		b = append(b, byte(piece.Int64())+128)
	}
}

// numbers are those at the edges of every piece and of every bit, and some between.
func numbers() []int {
	l := []int{math.MinInt, math.MinInt + 1, math.MaxInt, math.MaxInt - 1}
	for k := range 63 {
		for d := -2; d <= 2; d++ {
			l = append(l, 1<<k+d, -(1<<k)+d)
		}
	}
	for n := -300; n <= 300; n++ {
		l = append(l, n)
	}
	x := uint64(1)
	for range 2000 {
		x = x*6364136223846793005 + 1442695040888963407
		l = append(l, int(x), int(x)>>(x%64))
	}
	return l
}

// sameReader tells what is amiss with a reader that should be at a place, with this wrong and this end.
func sameReader(t *testing.T, what string, r *pack.Reader, at int, wrong, end api.Errno) {
	t.Helper()
	if r.At() != at || r.Wrong() != wrong || r.End() != end {
		t.Errorf("%s: at %d, wrong %d, end %d; want %d, %d, %d", what, r.At(), r.Wrong(), r.End(), at, wrong, end)
	}
}

// fallen tells what is amiss with a reader that should have failed at a place, and calls everything on it.
func fallen(t *testing.T, what string, r *pack.Reader, at int) {
	t.Helper()
	sameReader(t, what, r, at, api.ErrForm, api.ErrForm)
	for round := range 2 {
		if n := r.Num(); n != 0 {
			t.Errorf("%s: Num behind it: %d", what, n)
		}
		if n := r.In(math.MinInt, math.MaxInt); n != 0 {
			t.Errorf("%s: In behind it: %d", what, n)
		}
		if n := r.In(5, 9); n != 0 {
			t.Errorf("%s: In without 0 behind it: %d", what, n)
		}
		if s := r.Text(math.MaxInt); s != "" {
			t.Errorf("%s: Text behind it: %q", what, s)
		}
		for _, to := range []int{0, at - 1, at, at + 1, math.MinInt, math.MaxInt} {
			r.Fail(to)
		}
		sameReader(t, fmt.Sprint(what, ", round ", round), r, at, api.ErrForm, api.ErrForm)
	}
}

// P1.1

func TestRuns(t *testing.T) {
	for n, want := range map[int][]byte{0: {0x00}, -1: {0x01}, 64: {0x80, 0x01}} {
		if b := pack.Num(nil, n); !bytes.Equal(b, want) {
			t.Errorf("Num of %d: % x", n, b)
		}
	}
	if b := pack.Text(nil, "ab"); !bytes.Equal(b, []byte{0x04, 0x61, 0x62}) {
		t.Errorf("Text of ab: % x", b)
	}
	r := pack.Read([]byte{0x04, 0x61})
	if s := r.Text(9); s != "" {
		t.Errorf("Text: %q", s)
	}
	fallen(t, "Text of 04 61", r, 0)
	r = pack.Read([]byte{0x80, 0x00})
	if n := r.Num(); n != 0 {
		t.Errorf("Num: %d", n)
	}
	fallen(t, "Num of 80 00", r, 0)
}

func TestNumIsAsTold(t *testing.T) {
	for _, n := range numbers() {
		if b := pack.Num(nil, n); !bytes.Equal(b, told(n)) {
			t.Errorf("%d: % x, want % x", n, b, told(n))
		}
	}
}

func TestNumEdges(t *testing.T) {
	full := []byte{255, 255, 255, 255, 255, 255, 255, 255, 255, 1}
	least := bytes.Clone(full)
	full[0] = 254
	for n, want := range map[int][]byte{
		math.MaxInt: full, math.MinInt: least,
		1: {2}, -2: {3}, 63: {126}, -64: {127}, -65: {129, 1},
		8191: {254, 127}, -8192: {255, 127}, 8192: {128, 128, 1}, -8193: {129, 128, 1},
	} {
		if b := pack.Num(nil, n); !bytes.Equal(b, want) {
			t.Errorf("%d: % x, want % x", n, b, want)
		}
	}
}

func TestTextBytes(t *testing.T) {
	every := make([]byte, 256)
	for i := range every {
		every[i] = byte(i)
	}
	for _, s := range []string{"", "a", "\x00", "\x80\xff", "ä€", string(every), strings.Repeat("x", 63), strings.Repeat("x", 64), strings.Repeat("yz", 9000)} {
		want := append(told(len(s)), s...)
		if b := pack.Text(nil, s); !bytes.Equal(b, want) {
			t.Errorf("%d bytes: % x", len(s), b)
		}
	}
}

func TestWritingIsBehind(t *testing.T) {
	for _, ahead := range [][]byte{nil, {}, {0}, {128}, {255, 0, 7}, bytes.Repeat([]byte{200}, 1000)} {
		if b := pack.Num(ahead, -70); !bytes.Equal(b, append(bytes.Clone(ahead), told(-70)...)) {
			t.Errorf("Num behind % x: % x", ahead, b)
		}
		if b := pack.Text(ahead, "hé"); !bytes.Equal(b, append(bytes.Clone(ahead), "\x06h\xc3\xa9"...)) {
			t.Errorf("Text behind % x: % x", ahead, b)
		}
	}
}

func TestWritingIsNewMemory(t *testing.T) {
	writers := map[string]func([]byte) []byte{
		"Num":          func(b []byte) []byte { return pack.Num(b, math.MinInt) },
		"Num of 0":     func(b []byte) []byte { return pack.Num(b, 0) },
		"Text":         func(b []byte) []byte { return pack.Text(b, "a text of some length") },
		"Text of none": func(b []byte) []byte { return pack.Text(b, "") },
	}
	for name, write := range writers {
		room := bytes.Repeat([]byte{9}, 100)
		before := bytes.Clone(room)
		first := write(room[:3])
		kept := bytes.Clone(first)
		second := write(room[:3])
		if !bytes.Equal(room, before) {
			t.Errorf("%s: what was handed in is changed", name)
		}
		spoil(second)
		if !bytes.Equal(first, kept) || !bytes.Equal(room, before) {
			t.Errorf("%s: an answer shares memory", name)
		}
		clear(room)
		if !bytes.Equal(first, kept) {
			t.Errorf("%s: what was handed in is kept", name)
		}
	}
}

// spoil writes over a list and the room behind it.
func spoil(b []byte) {
	for i := range b[:cap(b)] {
		b[:cap(b)][i] = 77
	}
}

// P1.2

func TestReadBegins(t *testing.T) {
	sameReader(t, "nil", pack.Read(nil), 0, api.OK, api.OK)
	sameReader(t, "empty", pack.Read([]byte{}), 0, api.OK, api.OK)
	sameReader(t, "a number", pack.Read([]byte{2}), 0, api.OK, api.ErrForm)
	sameReader(t, "no number", pack.Read([]byte{128, 0}), 0, api.OK, api.ErrForm)
}

func TestReadKeepsACopy(t *testing.T) {
	b := pack.Text(pack.Num(nil, 1000), "abc")
	whole := bytes.Clone(b)
	r, other := pack.Read(b), pack.Read(b)
	clear(b)
	if n := r.Num(); n != 1000 {
		t.Errorf("number: %d", n)
	}
	copy(b, whole)
	b[len(b)-1] = 'z'
	if s := r.Text(9); s != "abc" {
		t.Errorf("text: %q", s)
	}
	sameReader(t, "the first", r, len(b), api.OK, api.OK)
	sameReader(t, "the other", other, 0, api.OK, api.ErrForm)
	if n, s := other.Num(), other.Text(9); n != 1000 || s != "abc" {
		t.Errorf("the other: %d, %q", n, s)
	}
}

func TestReadChangesNothing(t *testing.T) {
	room := pack.Text(pack.Num(nil, -500), "abc")
	before := bytes.Clone(room)
	r := pack.Read(room[:3])
	r.Num()
	r.Text(9)
	r.Fail(0)
	if !bytes.Equal(room, before) {
		t.Errorf("% x, want % x", room, before)
	}
}

func TestSpareRoomIsNotRead(t *testing.T) {
	b := []byte{2, 128, 1, 4, 'a', 'b'}
	r := pack.Read(b[:2])
	r.Num()
	if n := r.Num(); n != 0 {
		t.Errorf("number: %d", n)
	}
	fallen(t, "number", r, 1)
	r = pack.Read(b[3:5])
	if s := r.Text(9); s != "" {
		t.Errorf("text: %q", s)
	}
	fallen(t, "text", r, 0)
	sameReader(t, "none", pack.Read(b[:0]), 0, api.OK, api.OK)
}

func TestBehindSomethingWrong(t *testing.T) {
	b := pack.Text(pack.Num([]byte{2}, 3), "abc")
	for name, c := range map[string]struct {
		spoil func(r *pack.Reader)
		at    int
	}{
		"In too low":    {func(r *pack.Reader) { r.In(4, 9) }, 1},
		"In too high":   {func(r *pack.Reader) { r.In(0, 2) }, 1},
		"Text too long": {func(r *pack.Reader) { r.Num(); r.Text(2) }, 2},
		"Fail at 0":     {func(r *pack.Reader) { r.Fail(0) }, 0},
		"Fail here":     {func(r *pack.Reader) { r.Num(); r.Fail(2) }, 2},
		"Fail at end":   {func(r *pack.Reader) { r.Num(); r.Text(3); r.Fail(6) }, 6},
		"Num at end":    {func(r *pack.Reader) { r.Num(); r.Text(3); r.Num() }, 6},
	} {
		r := pack.Read(b)
		r.Num()
		c.spoil(r)
		fallen(t, name, r, c.at)
	}
}

// P1.3

func TestNumReadsWhatItWrote(t *testing.T) {
	for _, n := range numbers() {
		b := pack.Num(nil, n)
		r := pack.Read(append(bytes.Clone(b), 255))
		if x := r.Num(); x != n {
			t.Errorf("%d: %d", n, x)
		}
		sameReader(t, fmt.Sprint(n), r, len(b), api.OK, api.ErrForm)
	}
}

func TestNumCutShort(t *testing.T) {
	for _, n := range numbers() {
		b := pack.Num([]byte{6}, n)
		for k := 1; k < len(b); k++ {
			r := pack.Read(b[:k])
			if x, y := r.Num(), r.Num(); x != 3 || y != 0 {
				t.Errorf("%d cut at %d: %d, %d", n, k, x, y)
			}
			sameReader(t, fmt.Sprint(n, " cut at ", k), r, 1, api.ErrForm, api.ErrForm)
		}
	}
}

func TestNumRefusesOtherBytes(t *testing.T) {
	ones := func(k int, last ...byte) []byte { return append(bytes.Repeat([]byte{255}, k), last...) }
	l := [][]byte{
		nil, {128}, {255}, {128, 0}, {129, 0}, {255, 0}, {128, 128, 0}, {255, 255, 0},
		ones(9), ones(9, 2), ones(9, 3), ones(9, 127), ones(9, 128), ones(9, 255),
		ones(9, 129, 0), ones(10), ones(10, 0), ones(10, 1), ones(12, 1),
		append(bytes.Repeat([]byte{128}, 9), 0), append(bytes.Repeat([]byte{128}, 9), 2), append(bytes.Repeat([]byte{128}, 10), 1),
		bytes.Repeat([]byte{128}, 64), bytes.Repeat([]byte{128}, 1000),
	}
	for k := 1; k < 10; k++ {
		l = append(l, ones(k, 0))
	}
	for _, b := range l {
		r := pack.Read(b)
		if n := r.Num(); n != 0 {
			t.Errorf("% x: %d", b, n)
		}
		fallen(t, fmt.Sprintf("% x", b), r, 0)
		r = pack.Read(append([]byte{8}, b...))
		if x, y := r.Num(), r.In(math.MinInt, math.MaxInt); x != 4 || y != 0 {
			t.Errorf("In of % x: %d, %d", b, x, y)
		}
		fallen(t, fmt.Sprintf("In of % x", b), r, 1)
	}
}

func TestNumOfManyBytes(t *testing.T) {
	for _, c := range []struct {
		b []byte
		n int
	}{
		{append(bytes.Repeat([]byte{128}, 9), 1), 1 << 62},
		{append(bytes.Repeat([]byte{128}, 8), 127), 127 << 55},
		{append(append([]byte{129}, bytes.Repeat([]byte{128}, 8)...), 1), ^(1 << 62)},
	} {
		r := pack.Read(c.b)
		if n := r.Num(); n != c.n {
			t.Errorf("% x: %d, want %d", c.b, n, c.n)
		}
		sameReader(t, fmt.Sprintf("% x", c.b), r, len(c.b), api.OK, api.OK)
	}
}

func TestInWithinBounds(t *testing.T) {
	for _, c := range []struct{ n, lo, hi int }{
		{7, 7, 7}, {7, 0, 7}, {7, 7, 9}, {0, 0, 0}, {-5, -5, 0}, {-5, -9, -5}, {100, -100, 100},
		{math.MinInt, math.MinInt, math.MaxInt}, {math.MaxInt, math.MinInt, math.MaxInt},
		{math.MinInt, math.MinInt, math.MinInt}, {math.MaxInt, math.MaxInt, math.MaxInt}, {0, math.MinInt, math.MaxInt},
	} {
		b := pack.Num([]byte{2}, c.n)
		r := pack.Read(b)
		r.Num()
		if n := r.In(c.lo, c.hi); n != c.n {
			t.Errorf("%v: %d", c, n)
		}
		sameReader(t, fmt.Sprint(c), r, len(b), api.OK, api.OK)
	}
}

func TestInOutOfBounds(t *testing.T) {
	for _, c := range []struct{ n, lo, hi int }{
		{7, 8, 9}, {7, 0, 6}, {7, 9, 0}, {7, 8, 6}, {0, 1, math.MaxInt}, {0, math.MinInt, -1}, {-5, -4, 0}, {-5, -9, -6}, {7, 0, -1},
		{math.MinInt, math.MinInt + 1, math.MaxInt}, {math.MaxInt, math.MinInt, math.MaxInt - 1}, {0, math.MaxInt, math.MinInt}, {300, 0, 299},
	} {
		r := pack.Read(pack.Num([]byte{2}, c.n))
		r.Num()
		if n := r.In(c.lo, c.hi); n != 0 {
			t.Errorf("%v: %d", c, n)
		}
		fallen(t, fmt.Sprint(c), r, 1)
	}
}

func TestTextRead(t *testing.T) {
	for _, s := range []string{"", "a", "ab", "\x00\x80\xff", strings.Repeat("x", 63), strings.Repeat("x", 64), strings.Repeat("ä", 5000)} {
		for _, most := range []int{len(s), len(s) + 1, math.MaxInt} {
			b := pack.Text([]byte{2}, s)
			r := pack.Read(append(bytes.Clone(b), 4))
			r.Num()
			if got := r.Text(most); got != s {
				t.Errorf("%q, at most %d: %q", s, most, got)
			}
			sameReader(t, fmt.Sprint(len(s), " of ", most), r, len(b), api.OK, api.ErrForm)
			if n := r.Num(); n != 2 || r.End() != api.OK {
				t.Errorf("behind %q: %d", s, n)
			}
		}
	}
}

func TestTextRefused(t *testing.T) {
	long := pack.Text(nil, strings.Repeat("x", 64))
	for name, c := range map[string]struct {
		b    []byte
		most int
	}{
		"nothing":           {nil, 9},
		"too long by one":   {[]byte{4, 'a', 'b'}, 1},
		"none asked":        {[]byte{2, 'a'}, 0},
		"less than none":    {[]byte{0}, -1},
		"far less":          {[]byte{0}, math.MinInt},
		"negative length":   {[]byte{1, 'a'}, 9},
		"least length":      {pack.Num(nil, math.MinInt), math.MaxInt},
		"greatest length":   {append(pack.Num(nil, math.MaxInt), "abc"...), math.MaxInt},
		"length one less":   {append(pack.Num(nil, math.MaxInt-1), "abc"...), math.MaxInt},
		"a byte missing":    {[]byte{4, 'a'}, 9},
		"all missing":       {[]byte{2}, 9},
		"length cut short":  {[]byte{128}, 9},
		"length needless":   {[]byte{130, 0, 'a'}, 9},
		"last byte missing": {long[:len(long)-1], 64},
		"64 where 63":       {long, 63},
	} {
		r := pack.Read(c.b)
		if s := r.Text(c.most); s != "" {
			t.Errorf("%s: %q", name, s)
		}
		fallen(t, name, r, 0)
		r = pack.Read(append([]byte{2, 4}, c.b...))
		r.Num()
		r.Num()
		if s := r.Text(c.most); s != "" {
			t.Errorf("%s, behind: %q", name, s)
		}
		fallen(t, name+", behind", r, 2)
	}
}

func TestFailWithin(t *testing.T) {
	for at := 0; at <= 3; at++ {
		r := pack.Read([]byte{2, 4, 6, 8})
		for range 3 {
			r.Num()
		}
		r.Fail(at)
		fallen(t, fmt.Sprint("place ", at), r, at)
	}
	r := pack.Read(nil)
	r.Fail(0)
	fallen(t, "nothing", r, 0)
}

func TestFailWithout(t *testing.T) {
	b := []byte{2, 4, 6, 8}
	for at := 0; at <= len(b); at++ {
		r := pack.Read(b)
		for range at {
			r.Num()
		}
		for _, to := range []int{-1, at + 1, at + 2, len(b) + 1, math.MinInt, math.MaxInt} {
			r.Fail(to)
			if r.Wrong() != api.OK || r.At() != at {
				t.Errorf("at %d, Fail(%d): wrong %d at %d", at, to, r.Wrong(), r.At())
			}
		}
		if at < len(b) && r.Num() != at+1 {
			t.Errorf("at %d it doesn't go on", at)
		}
	}
}

func TestFailKeepsTheFirst(t *testing.T) {
	r := pack.Read([]byte{2, 4, 128})
	r.Num()
	r.Num()
	r.Num()
	r.Fail(0)
	sameReader(t, "behind Num", r, 2, api.ErrForm, api.ErrForm)
	r = pack.Read([]byte{2, 4, 6})
	r.Num()
	r.Num()
	r.Fail(1)
	r.Fail(0)
	r.Fail(2)
	sameReader(t, "behind Fail", r, 1, api.ErrForm, api.ErrForm)
}

// P1.4

func TestEnd(t *testing.T) {
	b := pack.Text(pack.Num(nil, 700), "ab")
	r := pack.Read(b)
	sameReader(t, "at the beginning", r, 0, api.OK, api.ErrForm)
	r.Num()
	sameReader(t, "in the midst", r, 2, api.OK, api.ErrForm)
	r.Text(9)
	sameReader(t, "at the end", r, 5, api.OK, api.OK)
	r.Fail(5)
	sameReader(t, "wrong at the end", r, 5, api.ErrForm, api.ErrForm)
}

func TestEndChangesNothing(t *testing.T) {
	r := pack.Read([]byte{2, 4})
	for i := range 2 {
		if r.End() != api.ErrForm || r.Wrong() != api.OK || r.At() != i {
			t.Errorf("left %d: wrong %d at %d", 2-i, r.Wrong(), r.At())
		}
		if n := r.Num(); n != i+1 {
			t.Errorf("number %d: %d", i, n)
		}
	}
	if r.End() != api.OK {
		t.Errorf("end: %d", r.End())
	}
}

// P1.5

// rows are all rows of so many items at most, of numbers and texts that are like each other's bytes.
func rows(most int) [][]any {
	items := []any{0, -1, 1, 2, 63, 64, -64, -65, 97, 8192, math.MaxInt, math.MinInt, "", "\x00", "\x02", "a", "b", "ab", "\x02a", "\x80", "\x80\x01", strings.Repeat("a", 64)}
	all, last := [][]any{nil}, [][]any{nil}
	for range most {
		var longer [][]any
		for _, row := range last {
			for _, item := range items {
				longer = append(longer, append(slices.Clone(row), item))
			}
		}
		all, last = append(all, longer...), longer
	}
	return all
}

func write(row []any) []byte {
	var b []byte
	for _, item := range row {
		switch x := item.(type) {
		case int:
			b = pack.Num(b, x)
		case string:
			b = pack.Text(b, x)
		}
	}
	return b
}

func TestWhatIsWrittenIsRead(t *testing.T) {
	for _, row := range rows(3) {
		r := pack.Read(write(row))
		for i, item := range row {
			var got any
			switch item.(type) {
			case int:
				got = r.Num()
			case string:
				got = r.Text(64)
			}
			if got != item {
				t.Fatalf("%q: item %d: %v", row, i, got)
			}
		}
		if r.Wrong() != api.OK || r.End() != api.OK {
			t.Fatalf("%q: wrong %d, end %d", row, r.Wrong(), r.End())
		}
	}
}

func TestRowsHaveBytesOfTheirOwn(t *testing.T) {
	seen := map[string][]any{}
	for _, row := range rows(3) {
		key := ""
		for _, item := range row {
			key += fmt.Sprintf("%T ", item)
		}
		key += ": " + string(write(row))
		if other, ok := seen[key]; ok {
			t.Fatalf("%q and %q have the same bytes", row, other)
		}
		seen[key] = row
	}
}

// each calls f with every text of so many bytes at most, of the bytes given.
func each(most int, of []byte, f func(b []byte)) {
	var walk func(b []byte)
	walk = func(b []byte) {
		f(b)
		if len(b) == most {
			return
		}
		for _, c := range of {
			walk(append(b[:len(b):len(b)], c))
		}
	}
	walk(nil)
}

// onlyOwn reads b in each way, and tells what is read though it isn't what its own writing is.
func onlyOwn(t *testing.T, b []byte) {
	r := pack.Read(b)
	n := r.Num()
	if r.Wrong() == api.OK && !bytes.Equal(pack.Num(nil, n), b[:r.At()]) {
		t.Errorf("% x is read as %d", b, n)
	}
	if r.Wrong() == api.OK && r.At() == 0 {
		t.Errorf("% x: a number of no bytes", b)
	}
	r = pack.Read(b)
	s := r.Text(9)
	if r.Wrong() == api.OK && !bytes.Equal(pack.Text(nil, s), b[:r.At()]) {
		t.Errorf("% x is read as %q", b, s)
	}
}

func TestNothingElseIsRead(t *testing.T) {
	every := make([]byte, 256)
	for i := range every {
		every[i] = byte(i)
	}
	each(2, every, func(b []byte) { onlyOwn(t, b) })
	each(6, []byte{0, 1, 2, 4, 127, 128, 129, 255}, func(b []byte) { onlyOwn(t, b) })
	for _, long := range [][]byte{bytes.Repeat([]byte{255}, 7), bytes.Repeat([]byte{128}, 7)} {
		each(4, []byte{0, 1, 2, 127, 128, 129, 254, 255}, func(b []byte) { onlyOwn(t, append(bytes.Clone(long), b...)) })
	}
}
