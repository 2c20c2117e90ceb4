package sum_test

import (
	"bytes"
	"fmt"
	"math/big"
	"math/bits"
	"strings"
	"testing"

	"bailiff/sum"
)

// divided reckons Sum in another way than P2.1 tells it: as what is left of a division of the text's bits,
// with four bytes of noughts behind them and the first 32 bits turned round, by the same number read backwards.
func divided(b []byte) uint32 {
	by := 1<<32 | uint64(bits.Reverse32(0xEDB88320))
	var left uint64
	for i := range 8 * (len(b) + 4) {
		var bit uint64
		if i < 8*len(b) {
			bit = uint64(b[i/8] >> (i % 8) & 1)
		}
		if i < 32 {
			bit ^= 1
		}
		left = left<<1 | bit
		if left>>32 == 1 {
			left ^= by
		}
	}
	return ^bits.Reverse32(uint32(left))
}

// told reckons Chain from the words of P2.2, with numbers of any size that are cut to 64 bits.
func told(prev uint64, b []byte) uint64 {
	whole := new(big.Int).Lsh(big.NewInt(1), 64)
	h, _ := new(big.Int).SetString("14695981039346656037", 10)
	take := func(c byte) {
		h.Xor(h, big.NewInt(int64(c)))
		h.Mul(h, big.NewInt(1099511628211))
		h.Mod(h, whole)
	}
	for place := range 8 {
		take(byte(prev >> (8 * place)))
	}
	for _, c := range b {
		take(c)
	}
	return h.Uint64()
}

// number goes through a row of numbers that is the same in every run of the tests.
type number uint64

func (x *number) next() uint64 {
	*x = *x*6364136223846793005 + 1442695040888963407
	return bits.RotateLeft64(uint64(*x), 32)
}

// texts are nothing, each byte alone, noughts and set bits, noughts ahead and behind, and texts of many lengths.
func texts() [][]byte {
	l := [][]byte{nil, {}, []byte("123456789"), []byte("a text"), []byte("ä€\x80\xff")}
	for c := range 256 {
		l = append(l, []byte{byte(c)}, []byte{0, byte(c)}, []byte{byte(c), 0}, []byte{'x', byte(c), 'y'})
	}
	for n := 1; n <= 20; n++ {
		noughts := make([]byte, n)
		l = append(l, noughts, bytes.Repeat([]byte{255}, n), append(bytes.Clone(noughts), "abc"...), append([]byte("abc"), noughts...))
	}
	var x number
	for n := range 200 {
		b := make([]byte, n)
		for i := range b {
			b[i] = byte(x.next())
		}
		l = append(l, b)
	}
	return l
}

// spoil writes over a list and the room behind it.
func spoil(b []byte) {
	b = b[:cap(b)]
	for i := range b {
		b[i] ^= 0x5A
	}
}

// P2.1

func TestSumRuns(t *testing.T) {
	for s, want := range map[string]uint32{
		"": 0, "123456789": 0xCBF43926,
		"\x00": 0xD202EF8D, "\x00\x00": 0x41D912FF, "\x00\x00\x00\x00": 0x2144DF1C,
		"\x01": 0xA505DF1B, "\x80": 0x3FBA6CAD, "\xff": 0xFF000000, "\xff\xff\xff\xff": 0xFFFFFFFF,
		"a": 0xE8B7BE43, "abc": 0x352441C2, "abc\x00": 0xA75D6850,
		"\x00abc": 0xEB2147CC, "\x00\x00abc": 0x0C476FCD,
		"The quick brown fox jumps over the lazy dog": 0x414FA339,
	} {
		if got := sum.Sum([]byte(s)); got != want {
			t.Errorf("%q: %08X, want %08X", s, got, want)
		}
	}
}

func TestSumOfNothing(t *testing.T) {
	if a, b, c := sum.Sum(nil), sum.Sum([]byte{}), sum.Sum([]byte("abc")[:0]); a != 0 || b != 0 || c != 0 {
		t.Errorf("%08X, %08X, %08X", a, b, c)
	}
}

func TestSumIsAsTold(t *testing.T) {
	for _, b := range texts() {
		if got, want := sum.Sum(b), divided(b); got != want {
			t.Errorf("% x: %08X, want %08X", b, got, want)
		}
	}
	long := []byte(strings.Repeat("a longer text\x00", 20000))
	if got, want := sum.Sum(long), divided(long); got != want {
		t.Errorf("%d bytes: %08X, want %08X", len(long), got, want)
	}
}

func TestSumTellsBytesApart(t *testing.T) {
	seen := map[uint32]int{}
	for c := range 256 {
		s := sum.Sum([]byte{byte(c)})
		if other, ok := seen[s]; ok {
			t.Errorf("%d and %d have the sum %08X", other, c, s)
		}
		seen[s] = c
	}
}

func TestSumCountsNoughtsAhead(t *testing.T) {
	for _, s := range []string{"", "a", "123456789", "\xff\xff\xff\xff"} {
		seen := map[uint32]int{}
		for n := range 200 {
			b := []byte(strings.Repeat("\x00", n) + s)
			got := sum.Sum(b)
			if want := divided(b); got != want {
				t.Errorf("%d noughts ahead of %q: %08X, want %08X", n, s, got, want)
			}
			if m, ok := seen[got]; ok {
				t.Errorf("%q: %d and %d noughts ahead have one sum", s, m, n)
			}
			seen[got] = n
		}
	}
}

// Four set bytes at the beginning leave no bit set: noughts behind them change nothing, as P2.1 reckons.
func TestSumOfNoughtsBehindSetBytes(t *testing.T) {
	for n := range 50 {
		b := []byte("\xff\xff\xff\xff" + strings.Repeat("\x00", n))
		if got := sum.Sum(b); got != 0xFFFFFFFF {
			t.Errorf("%d noughts: %08X", n, got)
		}
	}
}

func TestSumLeavesItsText(t *testing.T) {
	leavesItsText(t, func(b []byte) uint64 { return uint64(sum.Sum(b)) })
}

// leavesItsText tells of a sum that changes its text, reads or writes the room behind it, or keeps it.
func leavesItsText(t *testing.T, of func(b []byte) uint64) {
	t.Helper()
	whole := []byte("a text, and room behind it")
	for n := range len(whole) + 1 {
		b := bytes.Clone(whole)
		first := of(b[:n])
		if !bytes.Equal(b, whole) {
			t.Fatalf("%d bytes: what was handed in is now %q", n, b)
		}
		spoil(b[n:])
		if got := of(b[:n]); got != first {
			t.Errorf("%d bytes: the room behind counts", n)
		}
		spoil(b)
		if got := of(bytes.Clone(whole[:n])); got != first {
			t.Errorf("%d bytes: the same text has another sum", n)
		}
		if got := of(whole[:n:n]); got != first {
			t.Errorf("%d bytes: without room there is another sum", n)
		}
	}
}

// P2.2

func TestChainNumbers(t *testing.T) {
	for _, c := range []struct {
		prev uint64
		b    string
		want uint64
	}{
		{0x0, "", 0xA8C7F832281A39C5},
		{0x0, "\x00", 0xE604823A249029BF},
		{0x0, "a", 0xE604613A248FF1AC},
		{0x0, "\x00a", 0x69D326CC20F7243A},
		{0x1, "", 0x89CD31291D2AEFA4},
		{0x100000000000000, "", 0xA8C7F732281A3812},
		{0xFF, "", 0x9016B196E349A31A},
		{0xFFFFFFFFFFFFFFFF, "", 0x8CF51A8BFCA3883D},
		{0x807060504030201, "", 0x7EB5108B368A78ED},
		{0x807060504030201, "abc", 0xDEEC7CEFC75E3923},
		{0x807060504030201, "\xff", 0xD8232E8DAD4A0696},
		{0xFFFFFFFFFFFFFFFF, "123456789", 0xE812F3FA40DD6904},
		{0xCBF29CE484222325, "abc", 0x094870F4449E8C24},
	} {
		if got := sum.Chain(c.prev, []byte(c.b)); got != c.want {
			t.Errorf("%X, %q: %016X, want %016X", c.prev, c.b, got, c.want)
		}
	}
}

// ahead are numbers with bytes of every place set: one byte of each value alone, each bit alone, and all places at once.
func ahead() []uint64 {
	l := []uint64{0, 1<<64 - 1, 1 << 63, 1<<63 - 1, 0x0807060504030201, 0x0102030405060708, 0xFF00FF00FF00FF00, 14695981039346656037, 1099511628211}
	for place := range 8 {
		for c := uint64(1); c < 256; c++ {
			l = append(l, c<<(8*place))
		}
		l = append(l, ^(uint64(0xFF) << (8 * place)))
	}
	var x number
	for range 100 {
		l = append(l, x.next())
	}
	return l
}

func TestChainIsAsTold(t *testing.T) {
	for _, prev := range ahead() {
		for _, s := range []string{"", "\x00", "\xff", "a", "\x00\x00abc", "123456789"} {
			if got, want := sum.Chain(prev, []byte(s)), told(prev, []byte(s)); got != want {
				t.Errorf("%X, %q: %016X, want %016X", prev, s, got, want)
			}
		}
	}
	for _, b := range texts() {
		for _, prev := range []uint64{0, 1, 1 << 63, 0x0807060504030201, 1<<64 - 1} {
			if got, want := sum.Chain(prev, b), told(prev, b); got != want {
				t.Errorf("%X, % x: %016X, want %016X", prev, b, got, want)
			}
		}
	}
	long := []byte(strings.Repeat("a longer text\x00", 20000))
	if got, want := sum.Chain(7, long), told(7, long); got != want {
		t.Errorf("%d bytes: %016X, want %016X", len(long), got, want)
	}
}

func TestChainOfNothing(t *testing.T) {
	for _, prev := range ahead() {
		a, b, c := sum.Chain(prev, nil), sum.Chain(prev, []byte{}), sum.Chain(prev, []byte("abc")[:0])
		if want := told(prev, nil); a != want || b != want || c != want {
			t.Errorf("%X: %016X, %016X, %016X, want %016X", prev, a, b, c, want)
		}
	}
}

// What is ahead counts as its eight bytes: the last of them are as bytes of the text that follow the first.
func TestChainTakesPrevAsBytes(t *testing.T) {
	const times = 1099511628211
	for _, prev := range ahead() {
		h := uint64(14695981039346656037)
		for place := range 8 {
			h = (h ^ prev>>(8*place)&0xFF) * times
		}
		for _, c := range []byte{0, 1, 'a', 0x80, 0xFF} {
			if got, want := sum.Chain(prev, []byte{c}), (h^uint64(c))*times; got != want {
				t.Errorf("%X, %02X: %016X, want %016X", prev, c, got, want)
			}
		}
	}
}

func TestChainOverARow(t *testing.T) {
	var got, want uint64
	for _, b := range texts() {
		got, want = sum.Chain(got, b), told(want, b)
		if got != want {
			t.Fatalf("behind % x: %016X, want %016X", b, got, want)
		}
	}
}

func TestChainLeavesItsText(t *testing.T) {
	for _, prev := range []uint64{0, 0x0807060504030201, 1<<64 - 1} {
		leavesItsText(t, func(b []byte) uint64 { return sum.Chain(prev, b) })
	}
}

// P2.3

// shorts are the texts whose runs are changed.
func shorts() [][]byte {
	return [][]byte{{0}, {0xFF, 0}, []byte("abc"), {0, 0, 0, 0}, []byte("\xff\xff\xff\xff"), []byte("12345"), []byte("\x00\x00noughts"), []byte("any bytes")}
}

// changed tells of a run of size bytes at a place of b whose change, by the bits of by, leaves the sum as it was.
func changed(t *testing.T, b []byte, place, size int, by uint64) {
	t.Helper()
	was := sum.Sum(b)
	other := bytes.Clone(b)
	for i := range size {
		other[place+i] ^= byte(by >> (8 * i))
	}
	if !bytes.Equal(other, b) && sum.Sum(other) == was {
		t.Fatalf("% x and % x have the sum %08X", b, other, was)
	}
}

// everyPlace calls f with each short text and each place of it where a run of size bytes lies.
func everyPlace(size int, f func(b []byte, place int)) {
	for _, b := range shorts() {
		for place := range len(b) - size + 1 {
			f(b, place)
		}
	}
}

func TestRunsOfOneAndTwo(t *testing.T) {
	for size := 1; size <= 2; size++ {
		everyPlace(size, func(b []byte, place int) {
			for by := range uint64(1) << (8 * size) {
				changed(t, b, place, size, by)
			}
		})
	}
}

func TestRunsOfThreeAndFour(t *testing.T) {
	var x number
	likely := []uint64{0xEDB88320, 0xEDB883, 0xB88320, 0x04C11DB7, 0x82608EDB, 0xDB710641, 0x1DB71064, 0xFFFFFFFF, 0xFFFFFF, 0x80000001, 0x800001}
	for size := 3; size <= 4; size++ {
		everyPlace(size, func(b []byte, place int) {
			for i := range 8 * size {
				for j := range i + 1 {
					changed(t, b, place, size, 1<<i|1<<j)
					changed(t, b, place, size, 1<<(i+1)-1<<j)
				}
			}
			for _, by := range likely {
				changed(t, b, place, size, by)
			}
			for range 5000 {
				changed(t, b, place, size, x.next())
			}
		})
	}
}

// The changes of single bits add up (^) in the sum; so no change of a run goes unseen, if none of its 32 bits is made up by others.
func TestNoRunOfFourGoesUnseen(t *testing.T) {
	everyPlace(4, func(b []byte, place int) {
		turned := func(by uint64) uint32 {
			other := bytes.Clone(b)
			for i := range 4 {
				other[place+i] ^= byte(by >> (8 * i))
			}
			return sum.Sum(other) ^ sum.Sum(b)
		}
		var kept [32]uint32
		for i := range 32 {
			if !held(&kept, turned(1<<i)) {
				t.Fatalf("% x at %d: bit %d is made up by others", b, place, i)
			}
		}
		var x number
		for range 200 {
			y, z := x.next(), x.next()
			if turned(y^z) != turned(y)^turned(z) {
				t.Fatalf("% x at %d: %08X and %08X don't add up", b, place, uint32(y), uint32(z))
			}
		}
	})
}

// held puts s to those that are kept, each under its highest bit, if they don't make it up.
func held(kept *[32]uint32, s uint32) bool {
	for s != 0 {
		top := bits.Len32(s) - 1
		if kept[top] == 0 {
			kept[top] = s
			return true
		}
		s ^= kept[top]
	}
	return false
}

func TestRunsOfALongerText(t *testing.T) {
	b := []byte(strings.Repeat("a record of the journal, ", 8))
	var x number
	for size := 1; size <= 4; size++ {
		for place := range len(b) - size + 1 {
			for range 20 {
				changed(t, b, place, size, x.next())
			}
		}
	}
}

// Sums of every two texts that differ in one run are unlike, though many texts are held against each other at once.
func TestShortTextsHaveSumsOfTheirOwn(t *testing.T) {
	for size := 1; size <= 4; size++ {
		seen := map[uint32]string{}
		of := []byte{0, 1, 2, 'a', 'b', 0x7F, 0x80, 0x83, 0xED, 0xFE, 0xFF}
		var walk func(b []byte)
		walk = func(b []byte) {
			if len(b) < size {
				for _, c := range of {
					walk(append(b[:len(b):len(b)], c))
				}
				return
			}
			s := sum.Sum([]byte(fmt.Sprintf("ahead %s behind", b)))
			if other, ok := seen[s]; ok {
				t.Fatalf("% x and % x have the sum %08X", other, b, s)
			}
			seen[s] = string(b)
		}
		walk(nil)
	}
}
