package vars_test

import (
	"strconv"

	"bailiff/api"
)

// maker makes right policies, and requests which may be wrong, the same each time. What a policy asks it keeps in the order in which it makes it.
type maker struct {
	x     uint64
	ids   int
	room  int // how many values of a kind there are, so that more of them make more atoms
	asked []api.Atom
}

func (m *maker) n(below int) int {
	m.x = m.x*6364136223846793005 + 1442695040888963407
	return int(m.x >> 33 % uint64(below))
}

func pick[T any](m *maker, l []T) T { return l[m.n(len(l))] }

// id is a new one, so that a policy's names are all unlike.
func (m *maker) id() string {
	m.ids++
	return "n" + strconv.Itoa(m.ids)
}

// value is mostly a number.
func (m *maker) value() api.Value {
	switch m.n(20) {
	case 0:
		return text(strconv.Itoa(m.n(m.room)))
	case 1:
		return boolean(m.n(2))
	case 2:
		return tick(m.n(m.room))
	case 3:
		return id("n" + strconv.Itoa(m.n(m.room)))
	}
	return whole(m.n(m.room))
}

func (m *maker) attr() api.Attr {
	return api.Attr{Cat: api.CCase + m.n(2), Name: pick(m, []string{"x", "xx"}), Must: m.n(12) == 0}
}

func (m *maker) match() api.Match {
	a := api.Match{Attr: m.attr(), Op: api.MEq + m.n(3), Value: m.value()}
	m.asked = append(m.asked, ofMatch(a))
	return a
}

func some[T any](n int, one func() T) []T {
	var l []T
	for range n {
		l = append(l, one())
	}
	return l
}

// target is mostly everybody's.
func (m *maker) target() api.Target {
	return some(max(0, m.n(6)-3), func() [][]api.Match {
		return some(1+m.n(3), func() []api.Match { return some(1+m.n(8)/6, m.match) })
	})
}

func (m *maker) cond() []api.Node {
	l := m.nodes()
	if len(l) > 0 {
		m.asked = append(m.asked, ofCond(l))
	}
	return l
}

func (m *maker) nodes() []api.Node {
	a, v := of(m.attr()), lit(m.value())
	switch m.n(10) {
	case 0:
		return do(api.NEq, do(api.NOne, a), v)
	case 1:
		return do(api.NLess, do(api.NOne, a), v)
	case 2:
		return do(api.NLess, do(api.NSize, a), v)
	case 3:
		return do(api.NHas, a, v)
	case 4:
		return do(api.NNot, m.truth())
	case 5:
		return do(pick(m, []int{api.NAnd, api.NOr}), m.truth(), m.truth())
	case 6:
		return lit(boolean(m.n(2)))
	}
	return nil
}

// truth is a condition that isn't empty, and isn't long.
func (m *maker) truth() []api.Node {
	if l := m.nodes(); len(l) > 0 && len(l) < 5 {
		return l
	}
	return do(api.NHas, of(m.attr()), lit(m.value()))
}

func (m *maker) duty() api.Obl {
	return api.Obl{On: 1 + m.n(2), Kind: 1 + m.n(4), Arg: pick(m, []string{"x", "xx", "y"})}
}

func (m *maker) rule() api.Rule {
	return api.Rule{Id: m.id(), Deny: m.n(2) == 0, Target: m.target(), Cond: m.cond(), Obls: some(m.n(3), m.duty)}
}

// policy has at most so many rules or kids at each depth.
func (m *maker) policy(depth, most int) api.Policy {
	p := api.Policy{Id: m.id(), Set: depth < maxDeep && m.n(3) > 0, Alg: 1 + m.n(6), Target: m.target(), Obls: some(m.n(3), m.duty)}
	if p.Set {
		p.Kids = some(m.n(most+1), func() api.Policy { return m.policy(depth+1, most) })
		return p
	}
	if p.Alg == api.OnlyOne {
		p.Alg = api.FirstApplicable
	}
	p.Rules = some(m.n(most+1), m.rule)
	return p
}

// request has mostly one value of each attribute; some have none, or are there twice.
func (m *maker) request() []api.Given {
	return some(3+m.n(5), func() api.Given {
		a := m.attr()
		return given(a.Cat, a.Name, some(pick(m, []int{0, 1, 1, 1, 1, 2, 3}), m.value)...)
	})
}
