package eval_test

import (
	"slices"
	"strconv"
	"testing"

	"bailiff/api"
	"bailiff/eval"
	"bailiff/expr"
	"bailiff/target"
)

// P14.2 to P14.5 of mixed policies and requests, by the promises' words

// maker makes right policies, and requests which may be wrong, the same each time.
type maker struct {
	x   uint64
	ids int
}

func (m *maker) n(below int) int {
	m.x = m.x*6364136223846793005 + 1442695040888963407
	return int(m.x >> 33 % uint64(below))
}

func pick[T any](m *maker, l []T) T { return l[m.n(len(l))] }

// id is a new one, so that a policy's names are all unlike.
func (m *maker) id() string {
	m.ids++
	return "n" + strconv.Itoa(m.ids)
}

// value is mostly one of few numbers, so that some are met.
func (m *maker) value() api.Value {
	switch m.n(20) {
	case 0:
		return text("a")
	case 1:
		return boolean(m.n(2))
	case 2:
		return tick(m.n(3))
	}
	return whole(m.n(3))
}

func (m *maker) attr() api.Attr {
	return api.Attr{Cat: api.CCase + m.n(2), Name: pick(m, []string{"x", "xx"}), Must: m.n(12) == 0}
}

func (m *maker) match() api.Match {
	return api.Match{Attr: m.attr(), Op: api.MEq + m.n(3), Value: m.value()}
}

// target is mostly everybody's.
func (m *maker) target() api.Target {
	var t api.Target
	for range max(0, m.n(6)-3) {
		var anyOf [][]api.Match
		for range 1 + m.n(3) {
			var allOf []api.Match
			for range 1 + m.n(8)/6 {
				allOf = append(allOf, m.match())
			}
			anyOf = append(anyOf, allOf)
		}
		t = append(t, anyOf)
	}
	return t
}

func (m *maker) cond() []api.Node {
	a, v := of(m.attr()), lit(m.value())
	switch m.n(9) {
	case 0:
		return do(api.NEq, do(api.NOne, a), v)
	case 1:
		return do(api.NLess, do(api.NOne, a), v)
	case 2:
		return do(api.NLess, do(api.NSize, a), v)
	case 3:
		return do(api.NHas, a, v)
	case 4:
		return do(api.NNot, m.truth())
	case 5:
		return do(pick(m, []int{api.NAnd, api.NOr}), m.truth(), m.truth())
	}
	return nil
}

// truth is a condition that isn't empty.
func (m *maker) truth() []api.Node {
	if l := m.cond(); len(l) > 0 && len(l) < 5 {
		return l
	}
	return do(api.NHas, of(m.attr()), lit(m.value()))
}

func (m *maker) duties() []api.Obl {
	var l []api.Obl
	for range m.n(4) {
		l = append(l, api.Obl{On: 1 + m.n(2), Kind: 1 + m.n(4), Arg: pick(m, []string{"x", "xx", "y", "role"})})
	}
	return l
}

func (m *maker) rule() api.Rule {
	return api.Rule{Id: m.id(), Deny: m.n(2) == 0, Target: m.target(), Cond: m.cond(), Obls: m.duties()}
}

func (m *maker) policy(depth int) api.Policy {
	p := api.Policy{Id: m.id(), Set: depth < maxDeep && m.n(3) > 0, Alg: pick(m, algorithms()), Target: m.target(), Obls: m.duties()}
	if !p.Set && p.Alg == api.OnlyOne {
		p.Alg = api.FirstApplicable
	}
	for range m.n(4) {
		if p.Set {
			p.Kids = append(p.Kids, m.policy(depth+1))
		} else {
			p.Rules = append(p.Rules, m.rule())
		}
	}
	return p
}

// request has mostly one value of each attribute; some have none, or are there twice.
func (m *maker) request() []api.Given {
	var l []api.Given
	for range 3 + m.n(5) {
		a := m.attr()
		g := given(a.Cat, a.Name)
		for range pick(m, []int{0, 1, 1, 1, 1, 2, 3}) {
			g.Bag = append(g.Bag, m.value())
		}
		l = append(l, g)
	}
	return l
}

// byTheWords is what a policy must come to. What its targets and conditions come to is said by the layers below.
func byTheWords(p api.Policy, g []api.Given) api.Result {
	var l []api.Result
	for _, r := range p.Rules {
		l = append(l, ruleByTheWords(r, g))
	}
	for _, kid := range p.Kids {
		l = append(l, byTheWords(kid, g))
	}
	return ofParts(target.Met(p.Target, g), p.Alg, l, p.Obls)
}

func ruleByTheWords(r api.Rule, g []api.Given) api.Result {
	m := table(r.Deny, target.Met(r.Target, g), expr.Cond(r.Cond, g))
	return api.Result{Mark: m, Obls: beside(r.Obls, m)}
}

func TestMixedPolicies(t *testing.T) {
	seen, withDuties := map[api.Mark]int{}, map[int]int{}
	for i := range 60000 {
		m := maker{x: uint64(i)}
		p, g := m.policy(1+i%maxDeep), m.request()
		want := byTheWords(p, g)
		comes(t, "mixed", p, g, want)
		seen[want.Mark]++
		withDuties[min(len(want.Obls), 6)]++
	}
	for _, m := range six() {
		if seen[m] < 2000 {
			t.Errorf("%v: %d", m, seen[m])
		}
	}
	for n := range 7 {
		if withDuties[n] < 500 {
			t.Errorf("%d duties: %d", n, withDuties[n])
		}
	}
}

func TestMixedRules(t *testing.T) {
	seen := map[api.Mark]int{}
	for i := range 60000 {
		m := maker{x: uint64(i)}
		r, g := m.rule(), m.request()
		want := ruleByTheWords(r, g)
		ruleComes(t, "mixed", r, g, want)
		seen[want.Mark]++
	}
	for _, m := range six()[:5] {
		if seen[m] < 2000 {
			t.Errorf("%v: %d", m, seen[m])
		}
	}
}

// Order matters to first, and to the order of duties; else to nothing.
func TestOrder(t *testing.T) {
	others := 0
	for i := range 20000 {
		m := maker{x: uint64(i)}
		p, g := m.policy(1), m.request()
		before := decided(t, p, g)
		shuffle(&m, p.Rules)
		shuffle(&m, p.Kids)
		after := decided(t, p, g)
		if p.Alg == api.FirstApplicable {
			others += times(before.Mark != after.Mark)
		} else if before.Mark != after.Mark || !sameDuties(before.Obls, after.Obls) {
			t.Fatalf("%+v of %+v: %s, not %s", p, g, told(after), told(before))
		}
	}
	if others < 100 {
		t.Error(others)
	}
}

func shuffle[T any](m *maker, l []T) {
	for i := range l {
		k := i + m.n(len(l)-i)
		l[i], l[k] = l[k], l[i]
	}
}

// sameDuties are the same in any order.
func sameDuties(a, b []api.Obl) bool {
	count := map[api.Obl]int{}
	for _, o := range a {
		count[o]++
	}
	for _, o := range b {
		count[o]--
	}
	for _, n := range count {
		if n != 0 {
			return false
		}
	}
	return true
}

// P14.5

// others are attributes that no mixed policy names: of another category, of another name, or of none.
func others() []api.Given {
	return []api.Given{
		given(api.CSubject, "x", whole(1)), given(api.CAction, "xx", whole(2)), given(api.CCase, "xxx", whole(1)), given(api.CEnv, "", whole(1)), given(api.CCase, "X", whole(0)),
		given(api.CCase, "y", text("a")), given(api.CSubject, "role", id("admin")), given(0, "x", whole(1)), given(7, "xx", tick(1)), given(-api.CCase, "x", whole(1), text("a")), {},
	}
}

// What no target and no condition names doesn't matter, wherever it stands; nor what stands behind the first of its category and name.
func TestWhatIsNotNamed(t *testing.T) {
	for i := range 20000 {
		m := maker{x: uint64(i)}
		p, r, g := m.policy(1+i%maxDeep), m.rule(), m.request()
		want, wanted := decided(t, p, g), eval.Rule(r, g)
		more := slices.Clone(g)
		for range 1 + m.n(5) {
			o := pick(&m, others())
			for range m.n(3) {
				o.Bag = append(o.Bag, m.value())
			}
			more = slices.Insert(more, m.n(len(more)+1), o)
		}
		for _, h := range g {
			more = append(more, given(h.Cat, h.Name, m.value()))
		}
		comes(t, "beside other things", p, more, want)
		ruleComes(t, "beside other things", r, more, wanted)
		named := slices.DeleteFunc(slices.Clone(g), func(h api.Given) bool { return !names(p, h.Cat, h.Name) })
		comes(t, "what is named alone", p, named, want)
	}
}

// names is whether one of its targets or conditions does.
func names(p api.Policy, cat int, name string) bool {
	found := inTarget(p.Target, cat, name)
	for _, r := range p.Rules {
		found = found || inTarget(r.Target, cat, name) || slices.ContainsFunc(r.Cond, func(n api.Node) bool { return is(n.Attr, cat, name) })
	}
	return found || slices.ContainsFunc(p.Kids, func(kid api.Policy) bool { return names(kid, cat, name) })
}

func inTarget(t api.Target, cat int, name string) bool {
	for _, allOf := range slices.Concat(t...) {
		for _, m := range allOf {
			if is(m.Attr, cat, name) {
				return true
			}
		}
	}
	return false
}

func is(a api.Attr, cat int, name string) bool { return a.Cat == cat && a.Name == name }

// What policies, rules and duties are called says nothing of the decision, even if it is what an attribute is called.
func TestWhatIsOnlyCalledSo(t *testing.T) {
	s := "set role denyover { policy x first { permit due if (has case.y #a) on permit log y; deny y on deny redact x; } on deny review role } on deny notify due"
	says(t, s, nil, api.Deny, "x", "role", "due")
	says(t, s, append(x(whole(1)), known()...), api.Deny, "x", "role", "due")
	says(t, s, []api.Given{given(api.CSubject, "y", id("a")), given(api.CAction, "y", id("a")), given(api.CEnv, "y", id("a")), given(api.CCase, "x", id("a"))}, api.Deny, "x", "role", "due")
	says(t, s, append(x(whole(1)), given(api.CCase, "y", id("a"))), api.Permit, "y")
}

// A decision that isn't sure has no duties, nor has NotApplicable; those of the others are all on that decision.
func TestDutiesOfMixedOnes(t *testing.T) {
	for i := range 20000 {
		m := maker{x: uint64(i)}
		p, g := m.policy(1+i%maxDeep), m.request()
		r := decided(t, p, g)
		on := map[api.Mark]int{api.Permit: 1, api.Deny: 2}[r.Mark]
		for _, o := range r.Obls {
			if o.On != on {
				t.Fatalf("%+v of %+v: %s", p, g, told(r))
			}
		}
	}
}
