package compile_test

import (
	"strconv"

	"bailiff/api"
	"bailiff/policy"
)

// maker makes right policies and requests, the same each time.
type maker struct {
	x       uint64
	ids     int
	matches int // the numbers of what targets ask are below it
	conds   int // so many further ones are those of conditions
	most    int // how many rules or kids a policy may have
	args    int // how many names of duties there are: the fewer, the more is owed alike
	shared  bool
}

func (m *maker) n(below int) int {
	m.x = m.x*6364136223846793005 + 1442695040888963407
	return int(m.x >> 33 % uint64(below))
}

func pick[T any](m *maker, l []T) T { return l[m.n(len(l))] }

func some[T any](n int, one func() T) []T {
	var l []T
	for range n {
		l = append(l, one())
	}
	return l
}

// id is a new one, so that a policy's names are all unlike.
func (m *maker) id() string {
	m.ids++
	return "n" + strconv.Itoa(m.ids)
}

// match is of an attribute of its own number, or of one that others are of, too.
func (m *maker) match() api.Match {
	i := m.n(m.matches)
	if m.shared {
		return api.Match{Attr: api.Attr{Cat: api.CCase, Name: pick(m, []string{"x", "y"}), Must: i%4 == 3}, Op: api.MEq + i%3, Value: m.value(i)}
	}
	return asks(i)
}

// value is mostly a number.
func (m *maker) value(i int) api.Value {
	switch m.n(12) {
	case 0:
		return text(strconv.Itoa(i))
	case 1:
		return tick(i)
	}
	return whole(i)
}

// target is mostly everybody's, or one that asks little.
func (m *maker) target() api.Target {
	if m.matches == 0 {
		return nil
	}
	return some(pick(m, []int{0, 0, 1, 1, 1, 2, 3}), func() [][]api.Match {
		return some(1+m.n(3), func() []api.Match { return some(1+m.n(3), m.match) })
	})
}

func (m *maker) cond() []api.Node {
	if m.conds == 0 || m.n(2) == 0 {
		return nil
	}
	i := m.n(m.conds)
	if !m.shared {
		return cond(m.matches + i)
	}
	a := of(api.Attr{Cat: api.CCase, Name: pick(m, []string{"x", "y"}), Must: i == 2})
	return [][]api.Node{
		do(api.NLess, do(api.NOne, a), lit(m.value(i))),
		do(api.NHas, a, lit(m.value(i))),
		do(api.NOr, do(api.NEq, do(api.NSize, a), lit(whole(i))), do(api.NHas, a, lit(m.value(1)))),
		lit(boolean(m.n(2))),
	}[i]
}

func (m *maker) duty() api.Obl {
	return api.Obl{On: 1 + m.n(2), Kind: 1 + m.n(2), Arg: "d" + strconv.Itoa(m.n(m.args))}
}

func (m *maker) duties() []api.Obl { return some(max(0, m.n(5)-2), m.duty) }

func (m *maker) rule() api.Rule {
	return api.Rule{Id: m.id(), Deny: m.n(2) == 0, Target: m.target(), Cond: m.cond(), Obls: m.duties()}
}

// right is a policy without too many rules.
func (m *maker) right(depth int) api.Policy {
	for {
		if p := m.policy(depth); policy.Right(p) == api.OK {
			return p
		}
	}
}

func (m *maker) policy(depth int) api.Policy {
	p := api.Policy{Id: m.id(), Set: depth < maxDeep && m.n(3) > 0, Alg: 1 + m.n(6), Obls: m.duties()}
	if m.n(2) == 0 {
		p.Target = m.target()
	}
	if p.Set {
		p.Kids = some(m.n(m.most+1), func() api.Policy { return m.policy(depth + 1) })
		return p
	}
	if p.Alg == api.OnlyOne {
		p.Alg = api.DenyOverrides
	}
	p.Rules = some(m.n(m.most+1), m.rule)
	return p
}

// request has mostly one value of each attribute; some stand there twice, or have values of more kinds: then it isn't right.
func (m *maker) request() []api.Given {
	return some(m.n(4), func() api.Given {
		return given(api.CCase, pick(m, []string{"x", "y"}), some(pick(m, []int{0, 1, 1, 1, 2, 3}), func() api.Value { return m.value(m.n(6)) })...)
	})
}

func (m *maker) row(n int) []int { return some(n, func() int { return m.n(3) }) }
