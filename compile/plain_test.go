package compile_test

import (
	"slices"
	"testing"

	"bailiff/api"
	"bailiff/combine"
	"bailiff/compile"
	"bailiff/eval"
	"bailiff/mark"
	"bailiff/vars"
)

// What a policy comes to by answers alone, by the words of chapter 14 and without a diagram

type answered struct {
	atoms []api.Atom
	row   []int
}

// atom is the answer to it: 1, if there is none of 0 to 2.
func (l answered) atom(a api.Atom) int {
	i := vars.Find(l.atoms, a)
	if i >= len(l.row) || l.row[i] < 0 || l.row[i] > 2 {
		return 1
	}
	return l.row[i]
}

func (l answered) target(t api.Target) int {
	met := 2
	for _, anyOf := range t {
		one := 0
		for _, allOf := range anyOf {
			all := 2
			for _, m := range allOf {
				all = min(all, l.atom(api.Atom{Match: m}))
			}
			one = max(one, all)
		}
		met = min(met, one)
	}
	return met
}

func (l answered) rule(r api.Rule) api.Result {
	m := api.Permit
	if r.Deny {
		m = api.Deny
	}
	t, c := l.target(r.Target), 2
	if len(r.Cond) > 0 {
		c = l.atom(api.Atom{Cond: r.Cond})
	}
	switch {
	case t == 0 || t == 2 && c == 0:
		return api.Result{}
	case t == 1 || c == 1:
		return api.Result{Mark: mark.Indet(m)}
	}
	return api.Result{Mark: m, Obls: eval.Duties(r.Obls, m)}
}

func (l answered) policy(p api.Policy) api.Result {
	t := l.target(p.Target)
	var parts []api.Result
	var marks []api.Mark
	for _, r := range p.Rules {
		parts = append(parts, l.rule(r))
	}
	for _, kid := range p.Kids {
		parts = append(parts, l.policy(kid))
	}
	for _, r := range parts {
		marks = append(marks, r.Mark)
	}
	m, _ := combine.All(p.Alg, marks)
	switch {
	case t == 0:
		return api.Result{}
	case t == 1:
		return api.Result{Mark: mark.Indet(m)}
	case m != api.Permit && m != api.Deny:
		return api.Result{Mark: m}
	}
	return api.Result{Mark: m, Obls: append(owed(p.Alg, parts, m), eval.Duties(p.Obls, m)...)}
}

func owed(alg int, parts []api.Result, m api.Mark) []api.Obl {
	var l []api.Obl
	for _, r := range parts {
		if r.Mark != m {
			continue
		}
		l = append(l, r.Obls...)
		if alg == api.FirstApplicable {
			return l
		}
	}
	return l
}

// All rows of answers, and how a diagram over them must be

// rows are all rows of so many answers: the last one changes first.
func rows(n int) [][]int {
	l := [][]int{nil}
	for range n {
		var longer [][]int
		for _, row := range l {
			for a := range 3 {
				longer = append(longer, append(slices.Clone(row), a))
			}
		}
		l = longer
	}
	return l
}

// table is what comes of each row, and a number for each that is the same for the same.
type table struct {
	results []api.Result
	numbers []int
}

func tableOf(p api.Policy, l []api.Atom) table {
	var out table
	met := map[string]int{}
	for _, row := range rows(len(l)) {
		r := answered{l, row}.policy(p)
		if _, ok := met[told(r)]; !ok {
			met[told(r)] = len(met)
		}
		out.results, out.numbers = append(out.results, r), append(out.numbers, met[told(r)])
	}
	return out
}

// thirds are what is left behind the answers 0, 1 and 2 to the first atom.
func thirds(l []int) [][]int {
	n := len(l) / 3
	return [][]int{l[:n], l[n : 2*n], l[2*n:]}
}

// matters tells whether the first atom's answer does.
func matters(l []int) bool {
	by := thirds(l)
	return !slices.Equal(by[0], by[1]) || !slices.Equal(by[1], by[2])
}

// least is how many branches a diagram can't do without: one for each thing that may be left to be told behind some answers and hangs on the next atom.
func least(l []int) int {
	n := 0
	for left := [][]int{l}; len(left[0]) > 1; {
		var next [][]int
		for _, part := range left {
			if matters(part) {
				n++
			}
			for _, third := range thirds(part) {
				if !slices.ContainsFunc(next, func(other []int) bool { return slices.Equal(other, third) }) {
					next = append(next, third)
				}
			}
		}
		left = next
	}
	return n
}

// asked is how many atoms matter on the way that this row goes.
func asked(l []int, row []int) int {
	n := 0
	for _, answer := range row {
		if matters(l) {
			n++
		}
		l = thirds(l)[answer]
	}
	return n
}

// holds asks of a policy of few atoms all that can be asked, if each of them is of an attribute of its own.
func holds(t *testing.T, what string, p api.Policy) (*compile.Diagram, table) {
	t.Helper()
	d, l := diagram(t, what, p), atoms(t, p)
	want := tableOf(p, l)
	sizes(t, what, d, least(want.numbers))
	for i, row := range rows(len(l)) {
		answers(t, what, d, row, want.results[i])
		g := answering(l, row)
		comes(t, what, d, g, want.results[i], asked(want.numbers, row))
		if i%(1+len(want.results)/9) == 0 {
			decides(t, what, p, g, decided(t, p, g))
		}
	}
	return d, want
}
