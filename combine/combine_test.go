package combine_test

import (
	"math"
	"slices"
	"testing"

	"bailiff/api"
	"bailiff/combine"
	"bailiff/mark"
)

const (
	na  = api.NotApplicable
	p   = api.Permit
	d   = api.Deny
	ip  = api.IndetP
	id  = api.IndetD
	idp = api.IndetDP
)

func six() []api.Mark { return []api.Mark{na, p, d, ip, id, idp} }

func algorithms() []int {
	return []int{api.DenyOverrides, api.PermitOverrides, api.FirstApplicable, api.OnlyOne, api.DenyUnless, api.PermitUnless}
}

// wrongAlgorithms are just below the first and just above the last, and far off.
func wrongAlgorithms() []int {
	return []int{api.DenyOverrides - 1, api.PermitUnless + 1, -api.DenyOverrides, -api.PermitUnless, 8, 1 << 8, 1<<8 + 1, 1 << 32, 1<<32 + 1, 1 - 1<<32, math.MaxInt, math.MinInt, math.MinInt + 1}
}

// of puts a mark together of how much speaks for Permit, and how much for Deny.
func of(p, d float64) api.Mark { return api.Mark(complex(p, d)) }

// wrongMarks are none of the six: what joins leave, parts beside and between theirs, and signs turned.
func wrongMarks() []api.Mark {
	l := []api.Mark{of(1, 0.5), of(0.5, 1), of(1, 1), of(0.25, 0), of(0, 0.25), of(0.75, 0.75), of(2, 0), of(0, 2), of(-1, 0), of(0, -1), of(-0.5, -0.5), of(math.Inf(1), 0), of(0, math.Inf(-1))}
	for _, f := range []float64{0, 0.5, 1} {
		under, above := math.Nextafter(f, -9), math.Nextafter(f, 9)
		l = append(l, of(under, 0), of(above, 0), of(0, under), of(0, above), of(1, above))
	}
	return l
}

// rows are all rows of n of the marks.
func rows(marks []api.Mark, n int) [][]api.Mark {
	if n == 0 {
		return [][]api.Mark{nil}
	}
	var out [][]api.Mark
	for _, r := range rows(marks, n-1) {
		for _, m := range marks {
			out = append(out, append(slices.Clone(r), m))
		}
	}
	return out
}

// upTo are all rows of the six of n at most.
func upTo(n int) [][]api.Mark {
	var out [][]api.Mark
	for k := range n + 1 {
		out = append(out, rows(six(), k)...)
	}
	return out
}

// orders are all orders that the row may stand in.
func orders(l []api.Mark) [][]api.Mark {
	if len(l) == 0 {
		return [][]api.Mark{nil}
	}
	var out [][]api.Mark
	for i := range l {
		for _, o := range orders(slices.Concat(l[:i], l[i+1:])) {
			out = append(out, append([]api.Mark{l[i]}, o...))
		}
	}
	return out
}

// all wants a decision, and no error.
func all(t *testing.T, alg int, l ...api.Mark) api.Mark {
	t.Helper()
	m, err := combine.All(alg, l)
	if err != api.OK {
		t.Fatalf("%d of %v: error %d", alg, l, err)
	}
	return m
}

func is(t *testing.T, alg int, want api.Mark, l ...api.Mark) {
	t.Helper()
	if got := all(t, alg, l...); got != want {
		t.Fatalf("%d of %v: %s, not %s", alg, l, mark.Name(got), mark.Name(want))
	}
}

func refused(t *testing.T, alg int, l ...api.Mark) {
	t.Helper()
	if m, err := combine.All(alg, l); m != 0 || err != api.ErrArg {
		t.Fatalf("%d of %v: %v, error %d", alg, l, m, err)
	}
}

// P5.1

func TestTheSixAlgorithmsAreRight(t *testing.T) {
	if !slices.Equal(algorithms(), []int{1, 2, 3, 4, 5, 6}) {
		t.Fatal(algorithms())
	}
	for _, alg := range algorithms() {
		if !combine.Right(alg) {
			t.Error(alg)
		}
	}
}

func TestNoOtherAlgorithmIsRight(t *testing.T) {
	for _, alg := range wrongAlgorithms() {
		if combine.Right(alg) {
			t.Error(alg)
		}
	}
	right := 0
	for alg := -300; alg <= 300; alg++ {
		if combine.Right(alg) {
			right++
		}
	}
	if right != 6 {
		t.Errorf("%d algorithms are right", right)
	}
}

// P5.2

// table has a row for each of the six, and in it what that one and each of the six make.
type table [6][6]api.Mark

func tables() map[int]table {
	return map[int]table{
		api.DenyOverrides: {
			{na, p, d, ip, id, idp},
			{p, p, d, p, idp, idp},
			{d, d, d, d, d, d},
			{ip, p, d, ip, idp, idp},
			{id, idp, d, idp, id, idp},
			{idp, idp, d, idp, idp, idp},
		},
		api.PermitOverrides: {
			{na, p, d, ip, id, idp},
			{p, p, p, p, p, p},
			{d, p, d, idp, d, idp},
			{ip, p, idp, ip, idp, idp},
			{id, p, d, idp, id, idp},
			{idp, p, idp, idp, idp, idp},
		},
		api.FirstApplicable: {
			{na, p, d, ip, id, idp},
			{p, p, p, p, p, p},
			{d, d, d, d, d, d},
			{ip, ip, ip, ip, ip, ip},
			{id, id, id, id, id, id},
			{idp, idp, idp, idp, idp, idp},
		},
		api.OnlyOne: {
			{na, p, d, idp, idp, idp},
			{p, idp, idp, idp, idp, idp},
			{d, idp, idp, idp, idp, idp},
			{idp, idp, idp, idp, idp, idp},
			{idp, idp, idp, idp, idp, idp},
			{idp, idp, idp, idp, idp, idp},
		},
		api.DenyUnless: {
			{d, p, d, d, d, d},
			{p, p, p, p, p, p},
			{d, p, d, d, d, d},
			{d, p, d, d, d, d},
			{d, p, d, d, d, d},
			{d, p, d, d, d, d},
		},
		api.PermitUnless: {
			{p, p, d, p, p, p},
			{p, p, d, p, p, p},
			{d, d, d, d, d, d},
			{p, p, d, p, p, p},
			{p, p, d, p, p, p},
			{p, p, d, p, p, p},
		},
	}
}

func TestTablesOfTwo(t *testing.T) {
	for alg, tab := range tables() {
		for i, a := range six() {
			for k, b := range six() {
				if got := all(t, alg, a, b); got != tab[i][k] {
					t.Errorf("%d of %s and %s: %s, not %s", alg, mark.Name(a), mark.Name(b), mark.Name(got), mark.Name(tab[i][k]))
				}
			}
		}
	}
}

func TestOfNoDecisionAtAll(t *testing.T) {
	for i, want := range []api.Mark{na, na, na, na, d, p} {
		alg := algorithms()[i]
		is(t, alg, want)
		is(t, alg, want, []api.Mark{}...)
		is(t, alg, want, []api.Mark{p, d}[:0]...)
	}
}

func TestOfOneAlone(t *testing.T) {
	for i, want := range [][]api.Mark{
		six(), six(), six(),
		{na, p, d, idp, idp, idp},
		{d, p, d, d, d, d},
		{p, p, d, p, p, p},
	} {
		for k, m := range six() {
			is(t, algorithms()[i], want[k], m)
		}
	}
}

// denyOver asks for the greatest of each part, without mark's help.
func denyOver(l []api.Mark) api.Mark {
	var permit, deny float64
	for _, m := range l {
		permit, deny = max(permit, real(m)), max(deny, imag(m))
	}
	switch {
	case deny == 1:
		return d
	case deny == 0.5 && permit > 0:
		return idp
	case deny == 0.5:
		return id
	}
	return of(permit, 0)
}

func permitOver(l []api.Mark) api.Mark {
	var turned []api.Mark
	for _, m := range l {
		turned = append(turned, mark.Turn(m))
	}
	return mark.Turn(denyOver(turned))
}

// asTold is what the sentences of P5.2 say of a row of decisions.
func asTold(alg int, l []api.Mark) api.Mark {
	applicable := slices.DeleteFunc(slices.Clone(l), func(m api.Mark) bool { return m == na })
	switch alg {
	case api.DenyOverrides:
		return denyOver(l)
	case api.PermitOverrides:
		return permitOver(l)
	case api.FirstApplicable:
		return append(applicable, na)[0]
	case api.OnlyOne:
		unsure := slices.ContainsFunc(applicable, func(m api.Mark) bool { return m != p && m != d })
		if unsure || len(applicable) > 1 {
			return idp
		}
		return append(applicable, na)[0]
	case api.DenyUnless:
		if slices.Contains(l, p) {
			return p
		}
		return d
	}
	if slices.Contains(l, d) {
		return d
	}
	return p
}

func TestEveryRowOfAFewAsTold(t *testing.T) {
	for _, alg := range algorithms() {
		for _, l := range upTo(5) {
			is(t, alg, asTold(alg, l), l...)
		}
	}
}

func TestPermitOverridesIsDenyOverridesTurned(t *testing.T) {
	for _, l := range upTo(4) {
		var turned []api.Mark
		for _, m := range l {
			turned = append(turned, mark.Turn(m))
		}
		is(t, api.PermitOverrides, mark.Turn(all(t, api.DenyOverrides, turned...)), l...)
	}
}

func TestOneAmongManyOthersAtEachPlace(t *testing.T) {
	const many = 20
	for _, alg := range algorithms() {
		for _, other := range six() {
			for _, one := range six() {
				for at := range many {
					l := slices.Repeat([]api.Mark{other}, many)
					l[at] = one
					is(t, alg, asTold(alg, l), l...)
				}
			}
		}
	}
}

func TestOneThatIsNotSureAtEachPlace(t *testing.T) {
	for _, c := range []struct {
		alg     int
		others  []api.Mark
		unsure  api.Mark
		want    []api.Mark // by the place of the unsure one
		without api.Mark
	}{
		{api.DenyOverrides, []api.Mark{p, na, p}, id, []api.Mark{idp, idp, idp, idp}, p},
		{api.DenyOverrides, []api.Mark{p, d, p}, id, []api.Mark{d, d, d, d}, d},
		{api.DenyOverrides, []api.Mark{p, na, p}, ip, []api.Mark{p, p, p, p}, p},
		{api.PermitOverrides, []api.Mark{d, na, d}, ip, []api.Mark{idp, idp, idp, idp}, d},
		{api.PermitOverrides, []api.Mark{d, p, d}, ip, []api.Mark{p, p, p, p}, p},
		{api.PermitOverrides, []api.Mark{d, na, d}, id, []api.Mark{d, d, d, d}, d},
		{api.FirstApplicable, []api.Mark{na, na, p}, id, []api.Mark{id, id, id, p}, p},
		{api.FirstApplicable, []api.Mark{na, d, p}, idp, []api.Mark{idp, idp, d, d}, d},
		{api.OnlyOne, []api.Mark{na, p, na}, ip, []api.Mark{idp, idp, idp, idp}, p},
		{api.OnlyOne, []api.Mark{na, na, na}, id, []api.Mark{idp, idp, idp, idp}, na},
		{api.DenyUnless, []api.Mark{d, na, d}, ip, []api.Mark{d, d, d, d}, d},
		{api.DenyUnless, []api.Mark{d, p, d}, idp, []api.Mark{p, p, p, p}, p},
		{api.PermitUnless, []api.Mark{p, na, p}, id, []api.Mark{p, p, p, p}, p},
		{api.PermitUnless, []api.Mark{p, d, p}, idp, []api.Mark{d, d, d, d}, d},
	} {
		is(t, c.alg, c.without, c.others...)
		for at, want := range c.want {
			is(t, c.alg, want, slices.Insert(slices.Clone(c.others), at, c.unsure)...)
		}
	}
}

func TestVeryMany(t *testing.T) {
	const many = 100000
	for _, alg := range algorithms() {
		for _, last := range six() {
			l := make([]api.Mark, many)
			l[many-1] = last
			is(t, alg, asTold(alg, l), l...)
		}
	}
}

func TestAWrongAlgorithmIsRefused(t *testing.T) {
	for _, alg := range wrongAlgorithms() {
		refused(t, alg)
		refused(t, alg, six()...)
		for _, m := range six() {
			refused(t, alg, m)
		}
		refused(t, alg, wrongMarks()...)
	}
}

func TestAWrongMarkAloneIsRefused(t *testing.T) {
	for _, alg := range algorithms() {
		for _, m := range wrongMarks() {
			refused(t, alg, m)
		}
	}
}

func TestAWrongMarkAtEachPlaceIsRefused(t *testing.T) {
	for _, alg := range algorithms() {
		for _, wrong := range wrongMarks() {
			for _, m := range six() {
				for at := range 6 {
					refused(t, alg, slices.Insert(slices.Repeat([]api.Mark{m}, 5), at, wrong)...)
				}
			}
			for at := range 7 {
				refused(t, alg, slices.Insert(six(), at, wrong)...)
			}
		}
	}
}

func TestAWrongMarkBehindOneThatDecidesIsRefused(t *testing.T) {
	for _, c := range []struct {
		alg     int
		decides []api.Mark
	}{
		{api.DenyOverrides, []api.Mark{d}},
		{api.PermitOverrides, []api.Mark{p}},
		{api.FirstApplicable, []api.Mark{p}},
		{api.OnlyOne, []api.Mark{p, d}},
		{api.OnlyOne, []api.Mark{idp}},
		{api.DenyUnless, []api.Mark{p}},
		{api.PermitUnless, []api.Mark{d}},
	} {
		for _, wrong := range wrongMarks() {
			refused(t, c.alg, append(slices.Clone(c.decides), wrong)...)
			refused(t, c.alg, append(slices.Clone(c.decides), na, wrong, p)...)
		}
	}
}

func TestMinusNoughtIsNought(t *testing.T) {
	low := math.Copysign(0, -1)
	nought := []api.Mark{of(low, 0), of(0, low), of(low, low)}
	for _, alg := range algorithms() {
		for _, n := range nought {
			is(t, alg, asTold(alg, nil), n)
			is(t, alg, asTold(alg, nil), n, n)
			for _, m := range six() {
				is(t, alg, asTold(alg, []api.Mark{m}), m, n)
				is(t, alg, asTold(alg, []api.Mark{m}), n, m)
			}
		}
		is(t, alg, asTold(alg, []api.Mark{p}), of(1, low))
		is(t, alg, asTold(alg, []api.Mark{d}), of(low, 1))
	}
}

// P5.3

// few are the six, and some of none of them.
func few() []api.Mark { return append(six(), wrongMarks()...) }

func TestStepOfFourIsJoin(t *testing.T) {
	for _, alg := range []int{api.DenyOverrides, api.PermitOverrides, api.DenyUnless, api.PermitUnless} {
		for _, j := range few() {
			for _, m := range few() {
				want := of(max(real(j), real(m)), max(imag(j), imag(m)))
				if got := combine.Step(alg, j, m); got != want {
					t.Errorf("%d: step from %v by %v: %v, not %v", alg, j, m, got, want)
				}
			}
		}
	}
}

func TestStepOfFirstApplicable(t *testing.T) {
	for _, j := range few() {
		for _, m := range few() {
			want := j
			if j == 0 {
				want = m
			}
			if got := combine.Step(api.FirstApplicable, j, m); got != want {
				t.Errorf("step from %v by %v: %v, not %v", j, m, got, want)
			}
		}
	}
}

func TestStepOfOnlyOne(t *testing.T) {
	for _, j := range few() {
		for _, m := range few() {
			want := idp
			if m == 0 {
				want = j
			}
			if j == 0 {
				want = m
			}
			if got := combine.Step(api.OnlyOne, j, m); got != want {
				t.Errorf("step from %v by %v: %v, not %v", j, m, got, want)
			}
		}
	}
}

func TestStepOfAWrongAlgorithmStays(t *testing.T) {
	for _, alg := range wrongAlgorithms() {
		for _, j := range few() {
			for _, m := range few() {
				if got := combine.Step(alg, j, m); got != j {
					t.Errorf("%d: step from %v by %v: %v", alg, j, m, got)
				}
			}
		}
	}
}

// walk is what the steps through a row leave.
func walk(alg int, l []api.Mark) api.Mark {
	j := na
	for _, m := range l {
		j = combine.Step(alg, j, m)
	}
	return j
}

// settled is the decision that the document draws from what the steps leave.
func settled(alg int, j api.Mark) api.Mark {
	switch alg {
	case api.DenyOverrides:
		return mark.Over(j)
	case api.PermitOverrides:
		return mark.Turn(mark.Over(mark.Turn(j)))
	case api.OnlyOne:
		if j != na && j != p && j != d {
			return idp
		}
	case api.DenyUnless:
		if real(j) != 1 {
			return d
		}
		return p
	case api.PermitUnless:
		if imag(j) != 1 {
			return p
		}
		return d
	}
	return j
}

func TestStepsOneByOneComeToWhatAllSays(t *testing.T) {
	for _, alg := range algorithms() {
		for _, l := range upTo(4) {
			j := na
			for i, m := range l {
				j = combine.Step(alg, j, m)
				is(t, alg, settled(alg, j), l[:i+1]...)
			}
		}
	}
}

func TestStepsInAnyOrderLeaveTheSame(t *testing.T) {
	for _, alg := range algorithms() {
		if alg == api.FirstApplicable {
			continue
		}
		for _, l := range rows(six(), 3) {
			want := walk(alg, l)
			for _, o := range orders(l) {
				if got := walk(alg, o); got != want {
					t.Errorf("%d: %v leaves %v, and %v %v", alg, l, want, o, got)
				}
			}
		}
	}
}

// P5.4

func TestOrderMattersToFirstApplicableAlone(t *testing.T) {
	for _, alg := range algorithms() {
		matters := false
		for _, l := range rows(six(), 4) {
			want := all(t, alg, l...)
			for _, o := range orders(l) {
				matters = matters || all(t, alg, o...) != want
			}
		}
		if matters != (alg == api.FirstApplicable) {
			t.Errorf("%d: order matters: %v", alg, matters)
		}
	}
}

func TestFirstApplicableByOrder(t *testing.T) {
	for _, o := range orders([]api.Mark{p, d, ip, id, idp}) {
		is(t, api.FirstApplicable, o[0], o...)
		is(t, api.FirstApplicable, o[0], append([]api.Mark{na, na}, o...)...)
	}
}

func TestNotApplicableOnesPutAnywhereDoNotMatter(t *testing.T) {
	for _, alg := range algorithms() {
		for _, l := range upTo(3) {
			want := all(t, alg, l...)
			for at := range len(l) + 1 {
				is(t, alg, want, slices.Insert(slices.Clone(l), at, na)...)
				is(t, alg, want, slices.Insert(slices.Clone(l), at, na, na, na)...)
			}
			everywhere := []api.Mark{na}
			for _, m := range l {
				everywhere = append(everywhere, m, na)
			}
			is(t, alg, want, everywhere...)
			for _, o := range orders(everywhere[:min(len(everywhere), 5)]) {
				is(t, alg, asTold(alg, o), o...)
			}
		}
	}
}

func TestUnlessIsNeverUnsure(t *testing.T) {
	for _, alg := range []int{api.DenyUnless, api.PermitUnless} {
		for _, l := range upTo(5) {
			if got := all(t, alg, l...); got != p && got != d {
				t.Errorf("%d of %v: %s", alg, l, mark.Name(got))
			}
		}
	}
}

func TestWhatComesIsADecision(t *testing.T) {
	for _, alg := range algorithms() {
		for _, l := range upTo(4) {
			if got := all(t, alg, l...); !mark.Right(got) {
				t.Errorf("%d of %v: %v", alg, l, got)
			}
		}
	}
}

// What is handed in

func TestWhatIsHandedInStays(t *testing.T) {
	for _, alg := range append(algorithms(), wrongAlgorithms()...) {
		for _, l := range append(rows(six(), 3), wrongMarks(), few()) {
			// Marks behind the length stand for spare room: neither read nor written.
			whole := append(slices.Clone(l), d, of(7, 7), p)
			before := slices.Clone(whole)
			m, err := combine.All(alg, whole[:len(l)])
			if !slices.Equal(whole, before) {
				t.Fatalf("%d of %v left %v", alg, before, whole)
			}
			if again, e := combine.All(alg, l); m != again || err != e {
				t.Fatalf("%d of %v: %v %d, and with room behind it %v %d", alg, l, again, e, m, err)
			}
		}
	}
}

// The chapter's runs

func TestRuns(t *testing.T) {
	is(t, api.DenyOverrides, idp, p, id)
	is(t, api.PermitOverrides, p, p, id)
	is(t, api.FirstApplicable, id, na, id, p)
	is(t, api.OnlyOne, p, p, na)
	is(t, api.DenyUnless, d)
}
