package show_test

import (
	"strconv"
	"strings"

	"bailiff/api"
)

// next is a row of numbers that is the same each time.
func next(x *uint64, below int) int {
	*x = *x*6364136223846793005 + 1442695040888963407
	return int(*x >> 33 % uint64(below))
}

// maker makes right things of all kinds, and writes each as it makes it: from above down, where the program writes from below up.
type maker struct {
	x   uint64
	ids int
}

func (m *maker) n(below int) int { return next(&m.x, below) }

// some makes a list, which is nil if it is empty, and the texts of what is in it, with something between.
func some[T any](n int, between string, one func() (T, string)) ([]T, string) {
	var l []T
	var texts []string
	for range n {
		x, s := one()
		l, texts = append(l, x), append(texts, s)
	}
	return l, strings.Join(texts, between)
}

// within puts a text between two others, if there is one.
func within(before, s, behind string) string {
	if s == "" {
		return ""
	}
	return before + s + behind
}

func (m *maker) id() string {
	m.ids++
	if m.ids <= 9 {
		return names()[3*m.ids]
	}
	return "n" + strconv.Itoa(m.ids)
}

func (m *maker) name() string { return names()[m.n(len(names()))] }

func (m *maker) value() (api.Value, string) {
	l := values()
	v := l[m.n(len(l))]
	return v.is, v.want
}

func (m *maker) attr() (api.Attr, string) {
	cat, name := m.n(4), m.name()
	if m.n(2) == 0 {
		return must(cat+1, name), categories[cat] + "." + name + "!"
	}
	return attr(cat+1, name), categories[cat] + "." + name
}

func (m *maker) match() (api.Match, string) {
	op := m.n(3)
	a, left := m.attr()
	v, right := m.value()
	return api.Match{Attr: a, Op: op + 1, Value: v}, left + " " + comparisons[op] + " " + right
}

func (m *maker) target() (api.Target, string) {
	l, s := some(m.n(3), " and ", func() ([][]api.Match, string) {
		l, s := some(1+m.n(3), " or ", func() ([]api.Match, string) { return some(1+m.n(3), ", ", m.match) })
		return l, "(" + s + ")"
	})
	return l, within(" when ", s, "")
}

func (m *maker) duties() (l []api.Obl, s string) {
	return some(max(0, m.n(6)-3), "", func() (api.Obl, string) {
		on, kind, name := m.n(2), m.n(4), m.name()
		return api.Obl{On: on + 1, Kind: kind + 1, Arg: name}, " on " + effects[on] + " " + doings[kind] + " " + name
	})
}

// expr makes a value, of at most so many nodes.
func (m *maker) expr(room int) ([]api.Node, string) {
	op := api.NLit
	if room > 3 {
		op = m.n(api.NOr + 1)
	}
	if op < api.NOne {
		v, s := m.value()
		return []api.Node{lit(v)}, s
	}
	var l []api.Node
	s := "(" + functions[op-api.NOne]
	switch op {
	case api.NOne, api.NSize, api.NHas:
		a, bag := m.attr()
		l, s = append(l, of(a)), s+" "+bag
	case api.NNot:
	default:
		left, first := m.expr(room - 2)
		l, s = append(l, left...), s+" "+first
	}
	if op != api.NOne && op != api.NSize {
		right, last := m.expr(room - 1 - len(l))
		l, s = append(l, right...), s+" "+last
	}
	return append(l, call(op)), s + ")"
}

func (m *maker) rule() (api.Rule, string) {
	var r api.Rule
	var target, cond, duties string
	r.Id, r.Deny = m.id(), m.n(2) == 1
	r.Target, target = m.target()
	if m.n(3) > 0 {
		r.Cond, cond = m.expr(1 + m.n(maxExpr))
	}
	r.Obls, duties = m.duties()
	s := "permit " + r.Id
	if r.Deny {
		s = "deny " + r.Id
	}
	return r, s + target + within(" if ", cond, "") + duties + ";"
}

func (m *maker) policy(depth int) (api.Policy, string) {
	var p api.Policy
	var target, in, duties string
	p.Id, p.Set, p.Alg = m.id(), depth < maxDeep && m.n(2) == 0, 1+m.n(6)
	if !p.Set && p.Alg == api.OnlyOne {
		p.Alg = api.DenyUnless
	}
	p.Target, target = m.target()
	s := "policy "
	if p.Set {
		s = "set "
		p.Kids, in = some(m.n(4), " ", func() (api.Policy, string) { return m.policy(depth + 1) })
	} else {
		p.Rules, in = some(m.n(4), " ", m.rule)
	}
	p.Obls, duties = m.duties()
	return p, s + p.Id + " " + algorithms[p.Alg-1] + target + " {" + within(" ", in, "") + " }" + duties
}
