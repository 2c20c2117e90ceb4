package compile

import (
	"bailiff/api"
	"bailiff/combine"
	"bailiff/eval"
	"bailiff/mark"
	"bailiff/vars"
)

// What targets and conditions come to.
const (
	no = iota
	unknown
	yes
)

// result is a decision and the numbers of its duties, of two bytes each: two that say the same are the same by ==.
type result struct {
	mark   api.Mark
	duties string
}

// making is what is known of a policy while its diagram is put together.
type making struct {
	atoms   []api.Atom
	duties  []api.Obl
	numbers map[api.Obl]int
}

// over joins to sum what each of a list comes to, one behind the other.
func over[E any, T comparable](sum part[T], l []E, of func(E) (part[T], api.Errno), f func(T, T) T) (part[T], api.Errno) {
	for _, x := range l {
		next, err := of(x)
		if err == api.OK {
			sum, err = join(sum, next, f)
		}
		if err != api.OK {
			return part[T]{}, err
		}
	}
	return sum, api.OK
}

func least(a, b int) int    { return min(a, b) }
func greatest(a, b int) int { return max(a, b) }

func (m *making) target(t api.Target) (part[int], api.Errno) {
	return over(always(yes), t, m.anyOf, least)
}

func (m *making) anyOf(l [][]api.Match) (part[int], api.Errno) {
	return over(always(no), l, m.allOf, greatest)
}

func (m *making) allOf(l []api.Match) (part[int], api.Errno) {
	return over(always(yes), l, m.match, least)
}

func (m *making) match(a api.Match) (part[int], api.Errno) {
	return m.atom(api.Atom{Match: a}), api.OK
}

// cond asks nothing where there is no condition: none is listed there.
func (m *making) cond(l []api.Node) part[int] {
	if len(l) == 0 {
		return always(yes)
	}
	return m.atom(api.Atom{Cond: l})
}

// atom is one of the policy's: it always has a place among them.
func (m *making) atom(a api.Atom) part[int] {
	return asking(vars.Find(m.atoms, a))
}

func (m *making) rule(r api.Rule) (part[result], api.Errno) {
	t, err := m.target(r.Target)
	if err != api.OK {
		return part[result]{}, err
	}
	effect := m.effect(r)
	return join(t, m.cond(r.Cond), func(t, c int) result {
		switch {
		case t == no || t == yes && c == no:
			return result{mark: api.NotApplicable}
		case t == unknown || c == unknown:
			return result{mark: mark.Indet(effect.mark)}
		}
		return effect
	})
}

func (m *making) effect(r api.Rule) result {
	if r.Deny {
		return m.with(result{mark: api.Deny}, r.Obls)
	}
	return m.with(result{mark: api.Permit}, r.Obls)
}

func (m *making) policy(p api.Policy) (part[result], api.Errno) {
	t, err := m.target(p.Target)
	if err != api.OK {
		return part[result]{}, err
	}
	body, err := m.body(p)
	if err != api.OK {
		return part[result]{}, err
	}
	return join(t, body, func(t int, r result) result {
		switch t {
		case no:
			return result{mark: api.NotApplicable}
		case unknown:
			return result{mark: mark.Indet(r.mark)}
		}
		return m.with(r, p.Obls)
	})
}

// body is what a policy comes to for whom it is, but for its own duties. A right one has rules or kids, not both.
func (m *making) body(p api.Policy) (part[result], api.Errno) {
	none, _ := combine.All(p.Alg, nil)
	both := func(a, b result) result { return behind(p.Alg, a, b) }
	rules, err := over(always(result{mark: none}), p.Rules, m.rule, both)
	if err != api.OK {
		return part[result]{}, err
	}
	return over(rules, p.Kids, m.policy, both)
}

// behind is what parts come to that came to a, with one more that comes to b: each algorithm needs no more of those ahead than what it made of them.
func behind(alg int, a, b result) result {
	m, _ := combine.All(alg, []api.Mark{a.mark, b.mark})
	out := result{mark: m}
	if a.mark == m {
		out.duties = a.duties
	}
	if b.mark == m && (alg != api.FirstApplicable || a.mark != m) {
		out.duties += b.duties
	}
	return out
}

// with puts those of a list that go along with a decision behind its duties.
func (m *making) with(r result, l []api.Obl) result {
	row := []byte(r.duties)
	for _, o := range eval.Duties(l, r.mark) {
		n := m.number(o)
		row = append(row, byte(n>>8), byte(n))
	}
	return result{r.mark, string(row)}
}

// number is the same for duties that say the same. It is below 2^16: a right policy is of less than 2^13 rules and policies, with no more than 8 duties each.
func (m *making) number(o api.Obl) int {
	n, ok := m.numbers[o]
	if !ok {
		n = len(m.duties)
		m.numbers[o] = n
		m.duties = append(m.duties, o)
	}
	return n
}
