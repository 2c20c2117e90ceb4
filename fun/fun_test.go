package fun_test

import (
	"math"
	"math/big"
	"slices"
	"strings"
	"testing"

	"bailiff/api"
	"bailiff/fun"
	"bailiff/value"
)

// The numbers as the document's page has them.
const (
	least = -1 << 63
	most  = 1<<63 - 1
)

func boolean(n int) api.Value { return api.Value{Kind: api.KBool, N: n} }
func whole(n int) api.Value   { return api.Value{Kind: api.KInt, N: n} }
func text(s string) api.Value { return api.Value{Kind: api.KText, S: s} }
func tick(n int) api.Value    { return api.Value{Kind: api.KTick, N: n} }
func id(s string) api.Value   { return api.Value{Kind: api.KId, S: s} }

func yes() api.Value { return boolean(1) }
func no() api.Value  { return boolean(0) }

func truth(so bool) api.Value {
	if so {
		return yes()
	}
	return no()
}

// two are the operations that take two values; NNot alone takes one.
func two() []int {
	return []int{api.NEq, api.NLess, api.NAdd, api.NSub, api.NMul, api.NAnd, api.NOr}
}

func all() []int { return append(two(), api.NNot) }

// wrongOps are just below the first and just above the last, of nodes that are no operations, and far off; some would be right ones, cut to fewer bits.
func wrongOps() []int {
	return []int{
		api.NLit, api.NAttr, api.NOne, api.NSize, api.NHas, api.NOr + 1, api.NOr + 2, 0, -1, -api.NEq, -api.NOr,
		1<<8 + api.NEq, 1<<16 + api.NAdd, 1<<32 + api.NEq, 1<<32 + api.NNot, 1<<32 + api.NOr, api.NAnd - 1<<32, math.MaxInt, math.MinInt, math.MinInt + api.NEq, math.MinInt + api.NNot,
	}
}

// kinds are right values by kind: in each a few that are unlike, in rising order where the kind has one.
func kinds() [][]api.Value {
	return [][]api.Value{
		{no(), yes()},
		{whole(least), whole(-7), whole(-1), whole(0), whole(1), whole(2), whole(3), whole(10), whole(most)},
		{text(""), text("\x00"), text("10"), text("2"), text("a"), text("ann"), text("true"), text(strings.Repeat("z", 64)), text("\xff")},
		{tick(0), tick(1), tick(2), tick(3), tick(10), tick(1 << 40)},
		{id("a"), id("a0"), id("ann"), id("b"), id("true"), id(strings.Repeat("z", 16))},
	}
}

func rights() []api.Value { return slices.Concat(kinds()...) }

// wrongs are right in no kind, each for a reason of its own.
func wrongs() []api.Value {
	return []api.Value{
		{}, {Kind: 6}, {Kind: -1}, {Kind: 6, N: 1}, {Kind: 257, N: 1}, boolean(2), boolean(-1), {Kind: api.KBool, S: "x"}, {Kind: api.KBool, N: 1, S: "x"},
		{Kind: api.KInt, S: "x"}, {Kind: api.KInt, N: most, S: "0"}, {Kind: api.KText, N: 1}, {Kind: api.KText, N: 1, S: "a"}, text(strings.Repeat("a", 65)),
		tick(-1), tick(1<<40 + 1), {Kind: api.KTick, S: "x"}, id(""), id("Ann"), id("9a"), id(strings.Repeat("a", 17)), {Kind: api.KId, S: "a", N: 1},
	}
}

// is wants a value of Call, and no error; refused an error, and nothing beside it.
func is(t *testing.T, want api.Value, op int, l ...api.Value) {
	t.Helper()
	if v, err := fun.Call(op, l...); v != want || err != api.OK {
		t.Fatalf("%d of %+v: %+v, error %d, not %+v", op, l, v, err, want)
	}
}

func refused(t *testing.T, want api.Errno, op int, l ...api.Value) {
	t.Helper()
	if v, err := fun.Call(op, l...); v != (api.Value{}) || err != want {
		t.Fatalf("%d of %+v: %+v, error %d, not %d", op, l, v, err, want)
	}
}

// P6.1

// reckoner is one of the three, the operation that stands for it, and what it must be by numbers of any size.
type reckoner struct {
	name  string
	op    int
	f     func(a, b int) (int, api.Errno)
	exact func(z, a, b *big.Int) *big.Int
}

func reckoners() []reckoner {
	return []reckoner{
		{"Add", api.NAdd, fun.Add, (*big.Int).Add},
		{"Sub", api.NSub, fun.Sub, (*big.Int).Sub},
		{"Mul", api.NMul, fun.Mul, (*big.Int).Mul},
	}
}

// exactly is what P6.1 says: what comes out, or that it is too great.
func (r reckoner) exactly(a, b int) (int, api.Errno) {
	z := r.exact(new(big.Int), big.NewInt(int64(a)), big.NewInt(int64(b)))
	if !z.IsInt64() {
		return 0, api.ErrOver
	}
	return int(z.Int64()), api.OK
}

func (r reckoner) check(t *testing.T, a, b int) {
	t.Helper()
	n, err := r.f(a, b)
	want, wrong := r.exactly(a, b)
	if n != want || err != wrong {
		t.Fatalf("%s(%d, %d): %d, error %d, not %d, error %d", r.name, a, b, n, err, want, wrong)
	}
}

// numbers are nought, those at and beside each power of two, and near both bounds, of both signs; some come near a bound when they are multiplied.
func numbers() []int {
	l := []int{0, 3, 5, 6, 7, 10, 100, 3037000499, 3037000500, most / 2, most/2 + 1, most / 3, most/3 + 1, most / 7, most/7 + 1, 92233720368547758, 4611686014132420609}
	for k := range 63 {
		l = append(l, 1<<k-1, 1<<k, 1<<k+1)
	}
	for k := range 5 {
		l = append(l, most-k)
	}
	for _, n := range slices.Clone(l) {
		l = append(l, -n)
	}
	l = append(l, least, least+1, least+2, least+3)
	slices.Sort(l)
	return slices.Compact(l)
}

func TestNumbersAtAndBesideEveryBound(t *testing.T) {
	for _, r := range reckoners() {
		for _, a := range numbers() {
			for _, b := range numbers() {
				r.check(t, a, b)
			}
		}
	}
}

func TestSmallNumbers(t *testing.T) {
	for _, r := range reckoners() {
		for a := -60; a <= 60; a++ {
			for b := -60; b <= 60; b++ {
				r.check(t, a, b)
			}
		}
	}
}

// told is a call of one of the three, and what is told of it; n is 0 beside an error.
type told struct {
	a, b, n int
	err     api.Errno
}

func check(t *testing.T, name string, f func(a, b int) (int, api.Errno), l []told) {
	t.Helper()
	for _, c := range l {
		if n, err := f(c.a, c.b); n != c.n || err != c.err {
			t.Errorf("%s(%d, %d): %d, error %d, not %d, error %d", name, c.a, c.b, n, err, c.n, c.err)
		}
	}
}

func TestSums(t *testing.T) {
	check(t, "Add", fun.Add, []told{
		{2, 3, 5, api.OK}, {2, -3, -1, api.OK}, {-2, 3, 1, api.OK}, {-2, -3, -5, api.OK}, {0, 0, 0, api.OK}, {7, 0, 7, api.OK}, {0, -7, -7, api.OK},
		{most, 0, most, api.OK}, {most - 1, 1, most, api.OK}, {most, -1, most - 1, api.OK}, {most, 1, 0, api.ErrOver}, {1, most, 0, api.ErrOver}, {most - 1, 2, 0, api.ErrOver}, {most, most, 0, api.ErrOver},
		{1 << 62, 1<<62 - 1, most, api.OK}, {1 << 62, 1 << 62, 0, api.ErrOver}, {-1 << 62, -1 << 62, least, api.OK}, {-1 << 62, -1<<62 - 1, 0, api.ErrOver},
		{least, 0, least, api.OK}, {least + 1, -1, least, api.OK}, {least, 1, least + 1, api.OK}, {least, -1, 0, api.ErrOver}, {-1, least, 0, api.ErrOver}, {least + 1, -2, 0, api.ErrOver}, {least, least, 0, api.ErrOver},
		{least, most, -1, api.OK}, {most, least, -1, api.OK}, {most, -most, 0, api.OK},
	})
}

func TestDifferences(t *testing.T) {
	check(t, "Sub", fun.Sub, []told{
		{2, 3, -1, api.OK}, {2, -3, 5, api.OK}, {-2, 3, -5, api.OK}, {-2, -3, 1, api.OK}, {0, 0, 0, api.OK}, {7, 0, 7, api.OK}, {0, 7, -7, api.OK}, {7, 7, 0, api.OK},
		{most, 0, most, api.OK}, {most - 1, -1, most, api.OK}, {most, 1, most - 1, api.OK}, {most, -1, 0, api.ErrOver}, {most - 1, -2, 0, api.ErrOver}, {most, -most, 0, api.ErrOver}, {most, least, 0, api.ErrOver}, {1, -most, 0, api.ErrOver},
		{least, 0, least, api.OK}, {least + 1, 1, least, api.OK}, {least, -1, least + 1, api.OK}, {least, 1, 0, api.ErrOver}, {least + 1, 2, 0, api.ErrOver}, {least, most, 0, api.ErrOver}, {-2, most, 0, api.ErrOver}, {-1, most, least, api.OK},
		{0, most, -most, api.OK}, {0, -most, most, api.OK}, {0, least + 1, most, api.OK}, {0, least, 0, api.ErrOver}, {-1, least, most, api.OK}, {1, least, 0, api.ErrOver},
		{most, most, 0, api.OK}, {least, least, 0, api.OK},
	})
}

func TestProducts(t *testing.T) {
	check(t, "Mul", fun.Mul, []told{
		{2, 3, 6, api.OK}, {2, -3, -6, api.OK}, {-2, 3, -6, api.OK}, {-2, -3, 6, api.OK}, {0, 0, 0, api.OK}, {0, 7, 0, api.OK}, {-7, 0, 0, api.OK}, {1, -7, -7, api.OK}, {-1, -1, 1, api.OK},
		{most, 1, most, api.OK}, {1, most, most, api.OK}, {most, -1, -most, api.OK}, {-1, most, -most, api.OK}, {most, 0, 0, api.OK}, {0, most, 0, api.OK}, {most, 2, 0, api.ErrOver}, {2, most, 0, api.ErrOver}, {most, -2, 0, api.ErrOver}, {-2, most, 0, api.ErrOver}, {most, most, 0, api.ErrOver}, {most, -most, 0, api.ErrOver},
		{least, 1, least, api.OK}, {1, least, least, api.OK}, {least, 0, 0, api.OK}, {0, least, 0, api.OK}, {least, -1, 0, api.ErrOver}, {-1, least, 0, api.ErrOver}, {least, 2, 0, api.ErrOver}, {2, least, 0, api.ErrOver}, {least, -2, 0, api.ErrOver}, {-2, least, 0, api.ErrOver}, {least, least, 0, api.ErrOver}, {least, most, 0, api.ErrOver}, {most, least, 0, api.ErrOver},
		{least + 1, -1, most, api.OK}, {-1, least + 1, most, api.OK},
		{1 << 32, 1<<31 - 1, 1<<63 - 1<<32, api.OK}, {1 << 32, 1 << 31, 0, api.ErrOver}, {-1 << 32, 1 << 31, least, api.OK}, {1 << 32, -1 << 31, least, api.OK}, {-1 << 32, -1 << 31, 0, api.ErrOver}, {-1 << 32, 1<<31 + 1, 0, api.ErrOver},
		{1 << 32, 1 << 32, 0, api.ErrOver}, {1 << 62, 2, 0, api.ErrOver}, {1 << 62, -2, least, api.OK}, {-2, 1 << 62, least, api.OK}, {1 << 62, 4, 0, api.ErrOver}, {1 << 62, 1 << 62, 0, api.ErrOver},
		{3037000499, 3037000499, 9223372030926249001, api.OK}, {3037000500, 3037000500, 0, api.ErrOver}, {-3037000499, 3037000499, -9223372030926249001, api.OK}, {-3037000500, 3037000500, 0, api.ErrOver},
		{7, most / 7, most, api.OK}, {7, most/7 + 1, 0, api.ErrOver}, {-7, most / 7, -most, api.OK}, {-7, -most/7 - 1, 0, api.ErrOver},
	})
}

// P6.2

func TestOperationsStandInOneRow(t *testing.T) {
	row := []int{api.NEq, api.NLess, api.NAdd, api.NSub, api.NMul, api.NNot, api.NAnd, api.NOr}
	for i, op := range row {
		if op != api.NEq+i {
			t.Fatalf("%d stands at %d", op, i)
		}
	}
}

func TestEqual(t *testing.T) {
	for _, kind := range kinds() {
		for i, a := range kind {
			for k, b := range kind {
				is(t, truth(i == k), api.NEq, a, b)
			}
		}
	}
	is(t, yes(), api.NEq, text(strings.Clone("ann")), text(strings.Clone("ann")))
	is(t, no(), api.NEq, text("a"), text("A"))
}

func TestLess(t *testing.T) {
	for _, kind := range kinds()[1:] {
		for i, a := range kind {
			for k, b := range kind {
				is(t, truth(i < k), api.NLess, a, b)
			}
		}
	}
	is(t, yes(), api.NLess, whole(2), whole(10))
	is(t, no(), api.NLess, text("2"), text("10"))
	is(t, yes(), api.NLess, text("Z"), text("a"))
}

func TestLessOfTruthsHasNoOrder(t *testing.T) {
	for a := range 2 {
		for b := range 2 {
			refused(t, api.ErrType, api.NLess, boolean(a), boolean(b))
		}
	}
}

func TestEqualAndLessOfTwoKinds(t *testing.T) {
	for _, a := range rights() {
		for _, b := range rights() {
			if a.Kind != b.Kind {
				refused(t, api.ErrType, api.NEq, a, b)
				refused(t, api.ErrType, api.NLess, a, b)
			}
		}
	}
}

func TestLessIsAsValueSays(t *testing.T) {
	for _, a := range rights() {
		for _, b := range rights() {
			so, err := value.Less(a, b)
			if err != api.OK {
				refused(t, err, api.NLess, a, b)
				continue
			}
			is(t, truth(so), api.NLess, a, b)
		}
	}
}

func TestCallsOfNumbers(t *testing.T) {
	for _, r := range reckoners() {
		for _, a := range numbers() {
			for _, b := range numbers() {
				n, wrong := r.exactly(a, b)
				if wrong != api.OK {
					refused(t, wrong, r.op, whole(a), whole(b))
					continue
				}
				is(t, whole(n), r.op, whole(a), whole(b))
			}
		}
	}
}

func TestCallsOfFewNumbers(t *testing.T) {
	for _, c := range []struct {
		op, a, b, n int
	}{
		{api.NAdd, 2, 3, 5}, {api.NAdd, 0, 0, 0}, {api.NAdd, -1, 1, 0}, {api.NAdd, most, least, -1}, {api.NAdd, most - 1, 1, most},
		{api.NSub, 2, 3, -1}, {api.NSub, 3, 2, 1}, {api.NSub, 0, 1, -1}, {api.NSub, -1, most, least}, {api.NSub, -1, least, most},
		{api.NMul, 2, 3, 6}, {api.NMul, -2, 3, -6}, {api.NMul, 0, least, 0}, {api.NMul, least, 1, least}, {api.NMul, 1, least, least},
	} {
		is(t, whole(c.n), c.op, whole(c.a), whole(c.b))
	}
	for _, c := range []struct {
		op, a, b int
	}{
		{api.NAdd, most, 1}, {api.NAdd, 1, most}, {api.NAdd, least, -1}, {api.NSub, least, 1}, {api.NSub, 0, least}, {api.NSub, most, -1},
		{api.NMul, least, -1}, {api.NMul, -1, least}, {api.NMul, most, 2}, {api.NMul, 1 << 32, 1 << 31},
	} {
		refused(t, api.ErrOver, c.op, whole(c.a), whole(c.b))
	}
}

func TestTruths(t *testing.T) {
	is(t, yes(), api.NNot, no())
	is(t, no(), api.NNot, yes())
	for _, c := range []struct {
		a, b    int
		and, or int
	}{{0, 0, 0, 0}, {0, 1, 0, 1}, {1, 0, 0, 1}, {1, 1, 1, 1}} {
		is(t, boolean(c.and), api.NAnd, boolean(c.a), boolean(c.b))
		is(t, boolean(c.or), api.NOr, boolean(c.a), boolean(c.b))
	}
}

// takes tells the kind that an operation wants, if it wants one.
func takes(op int) (int, bool) {
	switch op {
	case api.NAdd, api.NSub, api.NMul:
		return api.KInt, true
	case api.NNot, api.NAnd, api.NOr:
		return api.KBool, true
	}
	return 0, false
}

func TestAKindThatIsNotTakenAtEitherPlace(t *testing.T) {
	for _, op := range two() {
		kind, wants := takes(op)
		if !wants {
			continue
		}
		for _, a := range rights() {
			for _, b := range rights() {
				if a.Kind != kind || b.Kind != kind {
					refused(t, api.ErrType, op, a, b)
				}
			}
		}
	}
}

func TestNotOfWhatIsNoTruth(t *testing.T) {
	for _, v := range rights() {
		if v.Kind != api.KBool {
			refused(t, api.ErrType, api.NNot, v)
		}
	}
}

func TestTheFirstTruthDoesNotHideAKind(t *testing.T) {
	for _, other := range []api.Value{whole(0), whole(1), text(""), text("true"), tick(0), tick(1), id("true")} {
		for _, b := range []api.Value{yes(), no()} {
			for _, op := range []int{api.NAnd, api.NOr} {
				refused(t, api.ErrType, op, b, other)
				refused(t, api.ErrType, op, other, b)
			}
		}
	}
}

func TestNoughtDoesNotHideAKind(t *testing.T) {
	for _, other := range []api.Value{no(), text(""), text("0"), tick(0), id("a")} {
		refused(t, api.ErrType, api.NMul, whole(0), other)
		refused(t, api.ErrType, api.NMul, other, whole(0))
		refused(t, api.ErrType, api.NAdd, whole(most), other)
		refused(t, api.ErrType, api.NSub, other, whole(least))
	}
}

// right are values that the operation takes.
func right(op, n int) []api.Value {
	kind, wants := takes(op)
	if wants && kind == api.KBool {
		return slices.Repeat([]api.Value{yes()}, n)
	}
	return slices.Repeat([]api.Value{whole(2)}, n)
}

func TestHowManyValues(t *testing.T) {
	for _, op := range all() {
		want := 2
		if op == api.NNot {
			want = 1
		}
		for _, n := range []int{0, 1, 2, 3, 4, 16, 1 << 8, 1<<8 + 1, 1<<8 + 2, 1<<16 + 1, 1<<16 + 2} {
			if n != want {
				refused(t, api.ErrArg, op, right(op, n)...)
				continue
			}
			if v, err := fun.Call(op, right(op, n)...); err != api.OK || !value.Right(v) {
				t.Fatalf("%d of %d values: %v, error %d", op, n, v, err)
			}
		}
		refused(t, api.ErrArg, op)
		refused(t, api.ErrArg, op, []api.Value{}...)
	}
}

func TestHowManyValuesAheadOfTheirKinds(t *testing.T) {
	for _, op := range all() {
		for _, a := range rights() {
			refused(t, api.ErrArg, op, a, text("a"), no())
			if op == api.NNot {
				refused(t, api.ErrArg, op, a, a)
			} else {
				refused(t, api.ErrArg, op, a)
			}
		}
	}
}

func TestAWrongOperation(t *testing.T) {
	for _, op := range wrongOps() {
		for n := range 5 {
			refused(t, api.ErrArg, op, slices.Repeat([]api.Value{yes()}, n)...)
			refused(t, api.ErrArg, op, slices.Repeat([]api.Value{whole(2)}, n)...)
		}
		refused(t, api.ErrArg, op, whole(2), text("a"))
		refused(t, api.ErrArg, op, whole(most), whole(most))
		for _, wrong := range wrongs() {
			refused(t, api.ErrArg, op, wrong)
			refused(t, api.ErrArg, op, wrong, wrong)
		}
	}
}

func TestNoOtherOperationIsTaken(t *testing.T) {
	taken := 0
	for op := -300; op <= 300; op++ {
		_, one := fun.Call(op, yes())
		_, pair := fun.Call(op, yes(), yes())
		if one != api.ErrArg || pair != api.ErrArg {
			taken++
		}
	}
	if taken != len(all()) {
		t.Fatalf("%d operations are taken", taken)
	}
}

func TestAWrongValueAtEachPlace(t *testing.T) {
	for _, op := range all() {
		for _, wrong := range wrongs() {
			refused(t, api.ErrArg, op, wrong)
			refused(t, api.ErrArg, op, wrong, wrong)
			refused(t, api.ErrArg, op, wrong, wrong, wrong)
			for _, v := range rights() {
				refused(t, api.ErrArg, op, v, wrong)
				refused(t, api.ErrArg, op, wrong, v)
			}
			for at := range 3 {
				refused(t, api.ErrArg, op, slices.Insert(right(op, 2), at, wrong)...)
			}
		}
	}
}

// Each of these would be told another way, or not at all, were its value right.
func TestAWrongValueAheadOfEveryOtherError(t *testing.T) {
	overfull := api.Value{Kind: api.KInt, N: most, S: "x"}
	for _, op := range []int{api.NAdd, api.NMul} {
		refused(t, api.ErrOver, op, whole(most), whole(most))
		refused(t, api.ErrArg, op, whole(most), overfull)
		refused(t, api.ErrArg, op, overfull, whole(most))
		refused(t, api.ErrType, op, tick(1), tick(1))
		refused(t, api.ErrArg, op, tick(1), tick(-1))
		refused(t, api.ErrArg, op, tick(-1), tick(1))
	}
	refused(t, api.ErrOver, api.NSub, whole(least), whole(most))
	refused(t, api.ErrArg, api.NSub, whole(least), overfull)
	refused(t, api.ErrArg, api.NMul, whole(0), overfull)
	for _, op := range []int{api.NEq, api.NLess} {
		refused(t, api.ErrType, op, whole(1), id("a"))
		refused(t, api.ErrArg, op, whole(1), id("A"))
		refused(t, api.ErrArg, op, id("A"), whole(1))
		refused(t, api.ErrArg, op, boolean(2), boolean(2))
	}
	for _, op := range []int{api.NAnd, api.NOr} {
		for _, b := range []api.Value{yes(), no()} {
			refused(t, api.ErrType, op, b, whole(1))
			refused(t, api.ErrArg, op, b, boolean(2))
			refused(t, api.ErrArg, op, boolean(-1), b)
			refused(t, api.ErrArg, op, whole(1), boolean(2))
		}
	}
	refused(t, api.ErrType, api.NNot, tick(1))
	refused(t, api.ErrArg, api.NNot, tick(-1))
	refused(t, api.ErrArg, api.NNot, boolean(2))
}

func TestWhatComesIsARightValue(t *testing.T) {
	for _, op := range two() {
		for _, a := range rights() {
			for _, b := range rights() {
				v, err := fun.Call(op, a, b)
				if (err == api.OK) != value.Right(v) || err != api.OK && v != (api.Value{}) {
					t.Fatalf("%d of %v and %v: %v, error %d", op, a, b, v, err)
				}
			}
		}
	}
}

// P6.3

func TestSumsAndProductsEitherWayRound(t *testing.T) {
	for _, r := range reckoners() {
		if r.op == api.NSub {
			continue
		}
		for _, a := range numbers() {
			for _, b := range numbers() {
				n, err := r.f(a, b)
				if m, e := r.f(b, a); m != n || e != err {
					t.Fatalf("%s(%d, %d): %d, error %d, turned round %d, error %d", r.name, a, b, n, err, m, e)
				}
			}
		}
	}
}

func TestCallsEitherWayRound(t *testing.T) {
	l := append(rights(), wrongs()...)
	for _, op := range []int{api.NEq, api.NAdd, api.NMul, api.NAnd, api.NOr} {
		for _, a := range l {
			for _, b := range l {
				v, err := fun.Call(op, a, b)
				if w, e := fun.Call(op, b, a); w != v || e != err {
					t.Fatalf("%d of %v and %v: %v, error %d, turned round %v, error %d", op, a, b, v, err, w, e)
				}
			}
		}
	}
}

func TestOffASumComesWhatWasPutToIt(t *testing.T) {
	for _, a := range numbers() {
		for _, b := range numbers() {
			sum, err := fun.Add(a, b)
			if err != api.OK {
				continue
			}
			if n, err := fun.Sub(sum, b); n != a || err != api.OK {
				t.Fatalf("%d, %d put to it and taken off: %d, error %d", a, b, n, err)
			}
			if n, err := fun.Sub(sum, a); n != b || err != api.OK {
				t.Fatalf("%d, %d put to it, and the first taken off: %d, error %d", a, b, n, err)
			}
			is(t, whole(a), api.NSub, whole(sum), whole(b))
		}
	}
}

func TestToADifferenceComesWhatWasTakenOff(t *testing.T) {
	for _, a := range numbers() {
		for _, b := range numbers() {
			rest, err := fun.Sub(a, b)
			if err != api.OK {
				continue
			}
			if n, err := fun.Add(rest, b); n != a || err != api.OK {
				t.Fatalf("%d, %d taken off and put to it: %d, error %d", a, b, n, err)
			}
		}
	}
}

// What is handed in

func TestWhatIsHandedInStays(t *testing.T) {
	l := append(rights(), wrongs()...)
	for _, op := range append(all(), wrongOps()...) {
		for i, a := range l {
			b := l[len(l)-1-i]
			// Values behind the length stand for spare room: neither read nor written.
			room := []api.Value{a, b, whole(7), {Kind: -3, N: 9, S: "kept"}, no()}
			before := slices.Clone(room)
			for n := range 3 {
				v, err := fun.Call(op, room[:n]...)
				if !slices.Equal(room, before) {
					t.Fatalf("%d of %v left %v", op, before, room)
				}
				if w, e := fun.Call(op, slices.Clip(slices.Clone(room[:n]))...); w != v || e != err {
					t.Fatalf("%d of %v: %v, error %d, and with room behind it %v, error %d", op, room[:n], w, e, v, err)
				}
			}
		}
	}
}

func TestWhatCameAheadDoesNotMatter(t *testing.T) {
	pair := []api.Value{whole(2), whole(3)}
	is(t, whole(5), api.NAdd, pair...)
	refused(t, api.ErrOver, api.NMul, whole(most), whole(most))
	refused(t, api.ErrArg, 0)
	is(t, whole(5), api.NAdd, pair...)
	pair[0] = whole(-2)
	is(t, whole(1), api.NAdd, pair...)
}

// The chapter's runs

func TestRuns(t *testing.T) {
	if n, err := fun.Add(most, 1); n != 0 || err != api.ErrOver {
		t.Errorf("Add: %d, error %d", n, err)
	}
	if n, err := fun.Mul(least, -1); n != 0 || err != api.ErrOver {
		t.Errorf("Mul: %d, error %d", n, err)
	}
	is(t, yes(), api.NLess, whole(2), whole(3))
	refused(t, api.ErrType, api.NEq, whole(2), text("2"))
	is(t, no(), api.NNot, yes())
}
