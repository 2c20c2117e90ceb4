package mark_test

import (
	"math"
	"slices"
	"testing"

	"bailiff/api"
	"bailiff/mark"
)

// of puts a mark together of how much speaks for Permit, and how much for Deny.
func of(p, d float64) api.Mark { return api.Mark(complex(p, d)) }

// told is what the document says of a decision: its name, what it is when it isn't sure whether it holds, and what it is turned.
type told struct {
	m            api.Mark
	name         string
	indet, turns api.Mark
}

func six() []told {
	return []told{
		{of(0, 0), "NotApplicable", of(0, 0), of(0, 0)},
		{of(1, 0), "Permit", of(0.5, 0), of(0, 1)},
		{of(0, 1), "Deny", of(0, 0.5), of(1, 0)},
		{of(0.5, 0), "Indeterminate{P}", of(0.5, 0), of(0, 0.5)},
		{of(0, 0.5), "Indeterminate{D}", of(0, 0.5), of(0.5, 0)},
		{of(0.5, 0.5), "Indeterminate{DP}", of(0.5, 0.5), of(0.5, 0.5)},
	}
}

// decisions are the six alone.
func decisions() []api.Mark {
	var l []api.Mark
	for _, c := range six() {
		l = append(l, c.m)
	}
	return l
}

// parts are nought, a half and 1, those just beside them, those between, below and above, both noughts and both infinities.
func parts() []float64 {
	l := []float64{math.Copysign(0, -1), 0.25, 0.75, -0.25, -0.5, -0.75, -1, 1.5, 2, -2, 5, 100, -100}
	for _, f := range []float64{0, 0.5, 1} {
		l = append(l, f, math.Nextafter(f, math.Inf(-1)), math.Nextafter(f, math.Inf(1)))
	}
	return append(l, 1e300, -1e300, math.MaxFloat64, -math.MaxFloat64, math.Inf(1), math.Inf(-1))
}

// marks have all parts with all parts: the six stand among them, some with minus noughts.
func marks() []api.Mark {
	var l []api.Mark
	for _, p := range parts() {
		for _, d := range parts() {
			l = append(l, of(p, d))
		}
	}
	return l
}

// few are the six, and some of none of them.
func few() []api.Mark {
	low := math.Copysign(0, -1)
	return append(decisions(), of(1, 0.5), of(1, 1), of(low, 0), of(0, low), of(low, low), of(-2, 3), of(math.Inf(1), math.Inf(-1)), of(0.25, 0.75))
}

// alike holds two marks against each other bit by bit: minus nought is not nought there.
func alike(a, b api.Mark) bool {
	return math.Float64bits(real(a)) == math.Float64bits(real(b)) && math.Float64bits(imag(a)) == math.Float64bits(imag(b))
}

// P4.1

func TestTheSixMarksAreThoseOfApi(t *testing.T) {
	given := []api.Mark{api.NotApplicable, api.Permit, api.Deny, api.IndetP, api.IndetD, api.IndetDP}
	if !slices.Equal(given, decisions()) {
		t.Fatal(given)
	}
}

func TestEachOfTheSixIsRightAndHasItsName(t *testing.T) {
	for _, c := range six() {
		if !mark.Right(c.m) || mark.Name(c.m) != c.name {
			t.Errorf("%v: %v %q, not %q", c.m, mark.Right(c.m), mark.Name(c.m), c.name)
		}
	}
}

func TestMinusNoughtIsNoughtInARightMark(t *testing.T) {
	low := math.Copysign(0, -1)
	for _, c := range []struct {
		m    api.Mark
		name string
	}{
		{of(low, 0), "NotApplicable"}, {of(0, low), "NotApplicable"}, {of(low, low), "NotApplicable"},
		{of(1, low), "Permit"}, {of(low, 1), "Deny"}, {of(0.5, low), "Indeterminate{P}"}, {of(low, 0.5), "Indeterminate{D}"},
	} {
		if !mark.Right(c.m) || mark.Name(c.m) != c.name {
			t.Errorf("%v: %v %q, not %q", c.m, mark.Right(c.m), mark.Name(c.m), c.name)
		}
	}
}

func TestNoMarkBesideTheSixIsRightOrHasAName(t *testing.T) {
	right := 0
	for _, m := range marks() {
		if slices.Contains(decisions(), m) {
			right++
			continue
		}
		if mark.Right(m) || mark.Name(m) != "" {
			t.Errorf("%v: %v %q", m, mark.Right(m), mark.Name(m))
		}
	}
	// The six, and seven that look like one of them with a minus nought.
	if right != 13 {
		t.Errorf("%d of the marks are of the six", right)
	}
}

func TestSumsOfRightMarksAreNotRight(t *testing.T) {
	for _, m := range []api.Mark{of(1, 1), of(1, 0.5), of(0.5, 1), of(-1, 0), of(0, -1), of(-0.5, 0), of(0, -0.5), of(-0.5, -0.5), of(0.5, -0.5), of(2, 0), of(0, 2), of(0.25, 0), of(0, 0.25), of(0.75, 0.75)} {
		if mark.Right(m) || mark.Name(m) != "" {
			t.Errorf("%v: %v %q", m, mark.Right(m), mark.Name(m))
		}
	}
}

// P4.2

func TestIndetAndTurnOfTheSix(t *testing.T) {
	for _, c := range six() {
		if got := mark.Indet(c.m); !alike(got, c.indet) {
			t.Errorf("Indet of %s: %v, not %v", c.name, got, c.indet)
		}
		if got := mark.Turn(c.m); !alike(got, c.turns) {
			t.Errorf("Turn of %s: %v, not %v", c.name, got, c.turns)
		}
	}
}

func TestIndetOfAnyOtherIsThatOne(t *testing.T) {
	for _, m := range marks() {
		want := m
		if m == of(1, 0) {
			want = of(0.5, 0)
		}
		if m == of(0, 1) {
			want = of(0, 0.5)
		}
		if got := mark.Indet(m); !alike(got, want) {
			t.Errorf("Indet of %v: %v, not %v", m, got, want)
		}
	}
}

func TestTurnExchangesWhateverPartsThereAre(t *testing.T) {
	for _, p := range parts() {
		for _, d := range parts() {
			if got := mark.Turn(of(p, d)); !alike(got, of(d, p)) {
				t.Errorf("Turn of %v: %v", of(p, d), got)
			}
		}
	}
}

func TestJoinTakesTheGreaterOfEachPart(t *testing.T) {
	for _, c := range []struct{ a, b, want api.Mark }{
		{of(1, 0), of(0, 0.5), of(1, 0.5)},
		{of(1, 0), of(0.5, 0), of(1, 0)},
		{of(1, 0), of(0, 1), of(1, 1)},
		{of(0, 0), of(0, 0), of(0, 0)},
		{of(0.5, 0.5), of(0, 1), of(0.5, 1)},
		{of(-2, 3), of(-1, -4), of(-1, 3)},
		{of(-1, -1), of(0, 0), of(0, 0)},
		{of(2, 0.25), of(1, 0.75), of(2, 0.75)},
		{of(math.Inf(1), math.Inf(-1)), of(1, 1), of(math.Inf(1), 1)},
		{of(math.Inf(-1), math.Inf(1)), of(math.Inf(-1), math.Inf(-1)), of(math.Inf(-1), math.Inf(1))},
	} {
		if got := mark.Join(c.a, c.b); !alike(got, c.want) {
			t.Errorf("Join of %v and %v: %v, not %v", c.a, c.b, got, c.want)
		}
	}
}

func TestJoinOfAllPartsWithAllParts(t *testing.T) {
	for _, a := range marks() {
		for _, b := range marks() {
			got := mark.Join(a, b)
			if real(got) < real(a) || real(got) < real(b) || imag(got) < imag(a) || imag(got) < imag(b) {
				t.Fatalf("Join of %v and %v: %v is less than one of them", a, b, got)
			}
			if real(got) != real(a) && real(got) != real(b) || imag(got) != imag(a) && imag(got) != imag(b) {
				t.Fatalf("Join of %v and %v: %v is of neither", a, b, got)
			}
		}
	}
}

// P4.3

func TestOverOfNoughtHalfAndOne(t *testing.T) {
	// Rows by how much speaks for Deny, columns by how much speaks for Permit: nought, a half, 1.
	rows := [3][3]string{
		{"NotApplicable", "Indeterminate{P}", "Permit"},
		{"Indeterminate{D}", "Indeterminate{DP}", "Indeterminate{DP}"},
		{"Deny", "Deny", "Deny"},
	}
	steps := []float64{0, 0.5, 1}
	for d, row := range rows {
		for p, name := range row {
			if got := mark.Name(mark.Over(of(steps[p], steps[d]))); got != name {
				t.Errorf("Over of %v: %s, not %s", of(steps[p], steps[d]), got, name)
			}
		}
	}
}

// overAsTold asks the six sentences of P4.3 one behind the other.
func overAsTold(p, d float64) api.Mark {
	so := []bool{d == 1, d == 0.5 && p >= 0.5, d == 0.5, p == 1, p == 0.5, true}
	is := []api.Mark{of(0, 1), of(0.5, 0.5), of(0, 0.5), of(1, 0), of(0.5, 0), of(0, 0)}
	return is[slices.Index(so, true)]
}

func TestOverOfAllParts(t *testing.T) {
	for _, p := range parts() {
		for _, d := range parts() {
			if got, want := mark.Over(of(p, d)), overAsTold(p, d); !alike(got, want) {
				t.Errorf("Over of %v: %v, not %v", of(p, d), got, want)
			}
		}
	}
}

func TestOverBesideAHalfAndOne(t *testing.T) {
	under := func(f float64) float64 { return math.Nextafter(f, math.Inf(-1)) }
	above := func(f float64) float64 { return math.Nextafter(f, math.Inf(1)) }
	for _, c := range []struct {
		p, d float64
		want string
	}{
		{under(0.5), 0.5, "Indeterminate{D}"},
		{above(0.5), 0.5, "Indeterminate{DP}"},
		{under(1), 0.5, "Indeterminate{DP}"},
		{above(1), 0.5, "Indeterminate{DP}"},
		{math.Inf(1), 0.5, "Indeterminate{DP}"},
		{math.Inf(-1), 0.5, "Indeterminate{D}"},
		{1, under(1), "Permit"},
		{1, above(1), "Permit"},
		{1, under(0.5), "Permit"},
		{1, above(0.5), "Permit"},
		{1, math.Inf(1), "Permit"},
		{0.5, under(0.5), "Indeterminate{P}"},
		{0.5, above(1), "Indeterminate{P}"},
		{under(0.5), 0, "NotApplicable"},
		{above(0.5), 0, "NotApplicable"},
		{under(1), 0, "NotApplicable"},
		{above(1), 0, "NotApplicable"},
		{0, under(1), "NotApplicable"},
		{0, above(1), "NotApplicable"},
		{0, above(0.5), "NotApplicable"},
		{0, math.Inf(1), "NotApplicable"},
		{math.Inf(1), math.Inf(1), "NotApplicable"},
		{math.Inf(-1), 1, "Deny"},
		{math.Inf(1), 1, "Deny"},
		{-1, -1, "NotApplicable"},
		{1, -1, "Permit"},
	} {
		if got := mark.Name(mark.Over(of(c.p, c.d))); got != c.want {
			t.Errorf("Over of %v: %s, not %s", of(c.p, c.d), got, c.want)
		}
	}
}

// P4.4

func TestJoinInAnyOrderOfTwo(t *testing.T) {
	for _, a := range marks() {
		for _, b := range marks() {
			if x, y := mark.Join(a, b), mark.Join(b, a); !alike(x, y) {
				t.Fatalf("Join of %v and %v: %v, and turned about %v", a, b, x, y)
			}
		}
	}
}

func TestJoinInAnyPartsOfThree(t *testing.T) {
	for _, a := range parts() {
		for _, b := range parts() {
			for _, c := range parts() {
				left := mark.Join(mark.Join(of(a, c), of(b, a)), of(c, b))
				right := mark.Join(of(a, c), mark.Join(of(b, a), of(c, b)))
				if !alike(left, right) {
					t.Fatalf("Join of %v, %v, %v: %v and %v", of(a, c), of(b, a), of(c, b), left, right)
				}
			}
		}
	}
}

// joins are all that the list, as it stands, may be joined to, in whatever parts.
func joins(l []api.Mark) []api.Mark {
	if len(l) == 1 {
		return l
	}
	var out []api.Mark
	for i := 1; i < len(l); i++ {
		for _, a := range joins(l[:i]) {
			for _, b := range joins(l[i:]) {
				out = append(out, mark.Join(a, b))
			}
		}
	}
	return out
}

// orders are all orders that the list may stand in.
func orders(l []api.Mark) [][]api.Mark {
	if len(l) == 0 {
		return [][]api.Mark{nil}
	}
	var out [][]api.Mark
	for i := range l {
		rest := slices.Concat(l[:i], l[i+1:])
		for _, o := range orders(rest) {
			out = append(out, append([]api.Mark{l[i]}, o...))
		}
	}
	return out
}

func TestJoinInEveryOrderAndAllParts(t *testing.T) {
	l := few()
	n := len(l)
	for i := range n {
		four := []api.Mark{l[i], l[(i+1)%n], l[(i*3+2)%n], l[(i*5+7)%n]}
		want := joins(four)[0]
		for _, o := range orders(four) {
			for _, got := range joins(o) {
				if !alike(got, want) {
					t.Fatalf("%v joined: %v, not %v", o, got, want)
				}
			}
		}
	}
}

func TestJoinOfOneWithItself(t *testing.T) {
	for _, m := range marks() {
		if got := mark.Join(m, m); !alike(got, m) {
			t.Errorf("Join of %v with itself: %v", m, got)
		}
	}
}

func TestJoinWithWhatIsInItIsNothing(t *testing.T) {
	for _, a := range few() {
		for _, b := range marks() {
			j := mark.Join(a, b)
			if !alike(mark.Join(j, a), j) || !alike(mark.Join(b, j), j) {
				t.Errorf("%v and %v joined are %v, and once more %v and %v", a, b, j, mark.Join(j, a), mark.Join(b, j))
			}
		}
	}
}

func TestNoughtAndMinusNoughtJoinedAreNought(t *testing.T) {
	low := math.Copysign(0, -1)
	for _, c := range [][2]api.Mark{{of(low, 0), of(0, low)}, {of(0, low), of(low, 0)}, {of(0, 0), of(low, low)}, {of(low, low), of(0, 0)}} {
		if got := mark.Join(c[0], c[1]); !alike(got, of(0, 0)) {
			t.Errorf("Join of %v and %v: %v", c[0], c[1], got)
		}
	}
}

func TestTurnTwiceIsNothing(t *testing.T) {
	for _, m := range marks() {
		if got := mark.Turn(mark.Turn(m)); !alike(got, m) {
			t.Errorf("%v turned twice: %v", m, got)
		}
	}
}

// The chapter's runs

func TestRuns(t *testing.T) {
	j := mark.Join(api.Permit, api.IndetD)
	if j != 1+0.5i || mark.Over(j) != api.IndetDP {
		t.Error(j, mark.Over(j))
	}
	if got := mark.Over(mark.Join(api.Permit, api.IndetP)); got != api.Permit {
		t.Error(got)
	}
	if got := mark.Turn(api.IndetD); got != api.IndetP {
		t.Error(got)
	}
}
