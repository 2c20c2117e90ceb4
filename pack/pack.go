// Package pack writes the numbers and texts that records are made of, and reads them back: see the document's chapter 1.
package pack

import "bailiff/api"

// mostPieces is how many bytes a number may take: nine pieces of seven bits hold 63 bits, and the 64th has a byte to itself.
const mostPieces = 10

// Reader works on a copy of its own, so that nobody can change what it has yet to read.
type Reader struct {
	b     []byte
	at    int
	wrong api.Errno
}

// Num keeps the sign in the lowest bit, so that small numbers on either side of 0 are short.
func Num(b []byte, n int) []byte {
	u := 2 * uint64(n)
	if n < 0 {
		u = 2*uint64(^n) + 1
	}
	// Behind b's length there may be room that others write into: the bytes go to new memory.
	out := make([]byte, len(b), len(b)+mostPieces)
	copy(out, b)
	for ; u >= 128; u >>= 7 {
		out = append(out, byte(u)|128)
	}
	return append(out, byte(u))
}

// Text puts the length ahead, so that a text may hold any bytes and needs no end mark.
func Text(b []byte, s string) []byte {
	return append(Num(b, len(s)), s...)
}

// Read begins a reading of b.
func Read(b []byte) *Reader {
	return &Reader{b: append([]byte(nil), b...)}
}

// Num takes the number at the place.
func (r *Reader) Num() int {
	if r.wrong != api.OK {
		return 0
	}
	u, size := pieces(r.b[r.at:])
	if size == 0 {
		r.Fail(r.at)
		return 0
	}
	r.at += size
	if u%2 == 1 {
		return ^int(u / 2)
	}
	return int(u / 2)
}

// pieces puts together the number that b begins with, and counts its bytes: none, if Num writes no such bytes.
func pieces(b []byte) (uint64, int) {
	var u uint64
	for i := 0; i < len(b) && i < mostPieces; i++ {
		u |= uint64(b[i]&127) << (7 * i)
		if b[i] >= 128 {
			continue
		}
		// A number has one form only: a piece of noughts at its end, or bits beyond the 64th, would give it a second one.
		needless := i > 0 && b[i] == 0
		beyond := i == mostPieces-1 && b[i] > 1
		if needless || beyond {
			return 0, 0
		}
		return u, i + 1
	}
	return 0, 0
}

// In refuses a number out of bounds at the place where it began, so that the place tells which one was wrong.
func (r *Reader) In(lo, hi int) int {
	from := r.at
	n := r.Num()
	if r.wrong != api.OK {
		return 0
	}
	if n < lo || n > hi {
		r.Fail(from)
		return 0
	}
	return n
}

// Text takes a text of most bytes at most.
func (r *Reader) Text(most int) string {
	from := r.at
	n := r.In(0, most)
	if r.wrong != api.OK {
		return ""
	}
	// n may be as great as a number gets: the room is told by what is left, since a sum of place and n could wrap round.
	if n > len(r.b)-r.at {
		r.Fail(from)
		return ""
	}
	s := string(r.b[r.at : r.at+n])
	r.at += n
	return s
}

// Fail lets a caller that finds fault with what it read say where; the first fault is the one that is kept.
func (r *Reader) Fail(at int) {
	if r.wrong != api.OK || at < 0 || at > r.at {
		return
	}
	r.wrong = api.ErrForm
	r.at = at
}

// At is the place: of the next byte, or of the fault.
func (r *Reader) At() int { return r.at }

// Wrong spares callers a question behind each reading: one at the end is enough.
func (r *Reader) Wrong() api.Errno { return r.wrong }

// End doesn't make the reader wrong: bytes that are left may still be read.
func (r *Reader) End() api.Errno {
	if r.wrong != api.OK {
		return r.wrong
	}
	if r.at < len(r.b) {
		return api.ErrForm
	}
	return api.OK
}
