package index_test

import (
	"strconv"

	"bailiff/api"
	"bailiff/policy"
)

// maker makes right policies, and requests which may be wrong, the same each time.
type maker struct {
	x    uint64
	ids  int
	most int // how many rules or kids a policy may have
}

func (m *maker) n(below int) int {
	m.x = m.x*6364136223846793005 + 1442695040888963407
	return int(m.x >> 33 % uint64(below))
}

func pick[T any](m *maker, l []T) T { return l[m.n(len(l))] }

func some[T any](n int, one func() T) []T {
	var l []T
	for range n {
		l = append(l, one())
	}
	return l
}

// id is a new one, so that a policy's names are all unlike.
func (m *maker) id() string {
	m.ids++
	return "n" + strconv.Itoa(m.ids)
}

// value is mostly one of few numbers.
func (m *maker) value() api.Value {
	switch m.n(30) {
	case 0:
		return text("a")
	case 1:
		return tick(1)
	case 2:
		return boolean(1)
	}
	return whole(m.n(3))
}

func (m *maker) attr() api.Attr {
	return api.Attr{Cat: api.CCase, Name: pick(m, []string{"x", "y", "z"}), Must: m.n(6) == 0}
}

// match is mostly one that may be a Key.
func (m *maker) match() api.Match {
	return api.Match{Attr: m.attr(), Op: pick(m, []int{api.MEq, api.MEq, api.MEq, api.MLess, api.MMore}), Value: m.value()}
}

// target has mostly one AnyOf of one AllOf.
func (m *maker) target() api.Target {
	return some(pick(m, []int{0, 1, 1, 1, 2, 3}), func() [][]api.Match {
		return some(pick(m, []int{1, 1, 1, 2, 3}), func() []api.Match { return some(pick(m, []int{1, 1, 2, 3}), m.match) })
	})
}

// anyTarget may have empty lists, too, and matches of no Op.
func (m *maker) anyTarget() api.Target {
	return some(m.n(5), func() [][]api.Match {
		return some(pick(m, []int{0, 1, 1, 1, 2, 3}), func() []api.Match {
			return some(m.n(4), func() api.Match {
				a := m.match()
				if m.n(5) == 0 {
					a.Op = m.n(9) - 4
				}
				return a
			})
		})
	})
}

func (m *maker) cond() []api.Node {
	a, v := of(m.attr()), lit(m.value())
	switch m.n(6) {
	case 0:
		return do(api.NHas, a, v)
	case 1:
		return do(api.NLess, do(api.NOne, a), v)
	case 2:
		return lit(boolean(m.n(2)))
	}
	return nil
}

func (m *maker) duties() []api.Obl {
	return some(max(0, m.n(4)-1), func() api.Obl {
		return api.Obl{On: 1 + m.n(2), Kind: 1 + m.n(4), Arg: "d" + strconv.Itoa(m.n(50))}
	})
}

// rule is mostly for everybody: that a policy doesn't apply is its own target's doing.
func (m *maker) rule() api.Rule {
	r := api.Rule{Id: m.id(), Deny: m.n(2) == 0, Cond: m.cond(), Obls: m.duties()}
	if m.n(3) == 0 {
		r.Target = m.target()
	}
	return r
}

// right is a policy without too many rules.
func (m *maker) right(depth int) api.Policy {
	for {
		if p := m.policy(depth); policy.Right(p) == api.OK {
			return p
		}
	}
}

func (m *maker) policy(depth int) api.Policy {
	p := api.Policy{Id: m.id(), Set: depth < maxDeep && m.n(4) > 0, Alg: 1 + m.n(6), Obls: m.duties()}
	if depth > 1 || m.n(4) == 0 {
		p.Target = m.target()
	}
	if p.Set {
		p.Kids = some(m.n(m.most+1), func() api.Policy { return m.policy(depth + 1) })
		return p
	}
	if p.Alg == api.OnlyOne {
		p.Alg = api.DenyOverrides
	}
	p.Rules = some(m.n(4), m.rule)
	return p
}

// request has mostly one value of each attribute; some have none, stand there twice, or have values of more kinds: then it isn't right.
func (m *maker) request() []api.Given {
	return some(m.n(6), func() api.Given {
		return given(api.CCase, m.attr().Name, some(pick(m, []int{0, 1, 1, 1, 1, 2, 3}), m.value)...)
	})
}
