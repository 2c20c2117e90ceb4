package eval_test

import (
	"slices"
	"strconv"
	"testing"

	"bailiff/api"
	"bailiff/eval"
	"bailiff/mark"
)

// What must come of several, by the sentences of P5.2 and without complex numbers

func joined(alg int, l []api.Mark) api.Mark {
	has := func(ms ...api.Mark) bool {
		return slices.ContainsFunc(l, func(m api.Mark) bool { return slices.Contains(ms, m) })
	}
	permits, mightPermit := has(api.Permit), has(api.IndetP, api.IndetDP)
	denies, mightDeny := has(api.Deny), has(api.IndetD, api.IndetDP)
	switch alg {
	case api.DenyOverrides:
		return overriding(denies, mightDeny, permits, mightPermit, api.Deny, api.IndetD, api.Permit, api.IndetP)
	case api.PermitOverrides:
		return overriding(permits, mightPermit, denies, mightDeny, api.Permit, api.IndetP, api.Deny, api.IndetD)
	case api.DenyUnless:
		return ofTwo(permits, api.Permit, api.Deny)
	case api.PermitUnless:
		return ofTwo(denies, api.Deny, api.Permit)
	}
	applying := slices.DeleteFunc(slices.Clone(l), func(m api.Mark) bool { return m == api.NotApplicable })
	switch {
	case len(applying) == 0:
		return api.NotApplicable
	case alg == api.OnlyOne && (len(applying) > 1 || mightPermit || mightDeny):
		return api.IndetDP
	}
	return applying[0]
}

// overriding is of the side that wins, sure and not sure, and then the other one.
func overriding(wins, mightWin, other, mightBe bool, win, winUnsure, otherwise, otherUnsure api.Mark) api.Mark {
	switch {
	case wins:
		return win
	case mightWin && (other || mightBe):
		return api.IndetDP
	case mightWin:
		return winUnsure
	case other:
		return otherwise
	case mightBe:
		return otherUnsure
	}
	return api.NotApplicable
}

func ofTwo(so bool, m, otherwise api.Mark) api.Mark {
	if so {
		return m
	}
	return otherwise
}

// unsure is of a policy's target that isn't known.
func unsure(m api.Mark) api.Mark {
	return map[api.Mark]api.Mark{api.Permit: api.IndetP, api.Deny: api.IndetD, api.IndetP: api.IndetP, api.IndetD: api.IndetD, api.IndetDP: api.IndetDP}[m]
}

// ofParts is what a policy comes to whose target comes to that and whose parts to those, and which has these duties of its own.
func ofParts(truth, alg int, l []api.Result, own []api.Obl) api.Result {
	var marks []api.Mark
	for _, r := range l {
		marks = append(marks, r.Mark)
	}
	m := joined(alg, marks)
	switch {
	case truth == 0:
		return api.Result{}
	case truth == 1:
		return api.Result{Mark: unsure(m)}
	case m != api.Permit && m != api.Deny:
		return api.Result{Mark: m}
	}
	var duties []api.Obl
	if i := slices.Index(marks, m); i >= 0 && alg == api.FirstApplicable {
		l = l[i : i+1]
	}
	for _, r := range l {
		if r.Mark == m {
			duties = append(duties, r.Obls...)
		}
	}
	return api.Result{Mark: m, Obls: append(duties, beside(own, m)...)}
}

// beside are those of a list of duties that stand beside m.
func beside(l []api.Obl, m api.Mark) []api.Obl {
	on := map[api.Mark]int{api.Permit: 1, api.Deny: 2}[m]
	var out []api.Obl
	for _, o := range l {
		if on > 0 && o.On == on {
			out = append(out, o)
		}
	}
	return out
}

// What is asked

func same(a, b api.Result) bool { return a.Mark == b.Mark && slices.Equal(a.Obls, b.Obls) }

// told is a result as text, short enough to be read.
func told(r api.Result) string {
	s := mark.Name(r.Mark)
	for _, o := range r.Obls {
		s += " " + strconv.Itoa(o.On) + "/" + strconv.Itoa(o.Kind) + " " + o.Arg
	}
	return s
}

func comes(t *testing.T, what string, p api.Policy, g []api.Given, want api.Result) {
	t.Helper()
	got, err := eval.Policy(p, g)
	if err != api.OK || !same(got, want) {
		t.Fatalf("%s: %+v of %+v: %s, error %d, not %s", what, p, g, told(got), err, told(want))
	}
}

func ruleComes(t *testing.T, what string, r api.Rule, g []api.Given, want api.Result) {
	t.Helper()
	if got := eval.Rule(r, g); !same(got, want) {
		t.Fatalf("%s: %+v of %+v: %s, not %s", what, r, g, told(got), told(want))
	}
}

func refused(t *testing.T, what string, p api.Policy, g []api.Given) {
	t.Helper()
	got, err := eval.Policy(p, g)
	if err != api.ErrArg || got.Mark != 0 || len(got.Obls) != 0 {
		t.Fatalf("%s: %s, error %d", what, told(got), err)
	}
}

// decided is what the policy comes to, whatever that is.
func decided(t *testing.T, p api.Policy, g []api.Given) api.Result {
	t.Helper()
	r, err := eval.Policy(p, g)
	if err != api.OK {
		t.Fatalf("%+v: error %d", p, err)
	}
	return r
}
