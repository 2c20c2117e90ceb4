package eval_test

import (
	"slices"

	"bailiff/api"
)

// The limits as the document's page has them.
const (
	maxExpr  = 32
	maxMatch = 8
	maxObls  = 8
	maxKids  = 16
	maxDeep  = 4
	maxAll   = 64
	maxText  = 64
)

func boolean(n int) api.Value { return api.Value{Kind: api.KBool, N: n} }
func whole(n int) api.Value   { return api.Value{Kind: api.KInt, N: n} }
func text(s string) api.Value { return api.Value{Kind: api.KText, S: s} }
func tick(n int) api.Value    { return api.Value{Kind: api.KTick, N: n} }
func id(s string) api.Value   { return api.Value{Kind: api.KId, S: s} }

func given(cat int, name string, bag ...api.Value) api.Given {
	return api.Given{Cat: cat, Name: name, Bag: bag}
}

// x is a request of case.x alone.
func x(bag ...api.Value) []api.Given { return []api.Given{given(api.CCase, "x", bag...)} }

func attr(cat int, name string) api.Attr { return api.Attr{Cat: cat, Name: name} }
func must(cat int, name string) api.Attr { return api.Attr{Cat: cat, Name: name, Must: true} }

func lit(v api.Value) []api.Node { return []api.Node{{Op: api.NLit, Value: v}} }
func of(a api.Attr) []api.Node   { return []api.Node{{Op: api.NAttr, Attr: a}} }

// do puts an Op behind what it is of.
func do(op int, of ...[]api.Node) []api.Node {
	return append(slices.Concat(of...), api.Node{Op: op})
}

func algorithms() []int {
	return []int{api.DenyOverrides, api.PermitOverrides, api.FirstApplicable, api.OnlyOne, api.DenyUnless, api.PermitUnless}
}

func six() []api.Mark {
	return []api.Mark{api.NotApplicable, api.Permit, api.Deny, api.IndetP, api.IndetD, api.IndetDP}
}

// Targets and conditions of which it is known what they come to

// known is a request over which they come to each of the three answers.
func known() []api.Given {
	return []api.Given{
		given(api.CSubject, "role", id("clerk"), id("judge")),
		given(api.CCase, "due", tick(5)),
		given(api.CCase, "none"),
		given(api.CEnv, "odd", text("a"), whole(1)),
	}
}

// matchOf is a match that comes to that over known.
func matchOf(truth int) api.Match {
	return []api.Match{
		{Attr: attr(api.CCase, "due"), Op: api.MMore, Value: tick(5)},
		{Attr: attr(api.CEnv, "odd"), Op: api.MEq, Value: whole(2)},
		{Attr: attr(api.CSubject, "role"), Op: api.MEq, Value: id("judge")},
	}[truth]
}

// targets come to that over known, each in a way of its own. All are right ones.
func targets(truth int) []api.Target {
	no, unsure, yes := matchOf(0), matchOf(1), matchOf(2)
	return [][]api.Target{
		{{{{no}}}, {{{yes, no}}}, {{{unsure}}, {{no}}}, {{{yes}}, {{no}, {no, unsure}}}},
		{{{{unsure}}}, {{{yes, unsure}}}, {{{no}, {unsure}}}, {{{{Attr: must(api.CCase, "none"), Op: api.MLess, Value: whole(1)}}}}},
		{nil, {}, {{{yes}}}, {{{no}, {unsure}, {yes}}}, {{{yes}}, {{yes, yes}}}},
	}[truth]
}

// conds come to that over known, each in a way of its own. All are right ones.
func conds(truth int) [][]api.Node {
	mistake := do(api.NEq, lit(whole(1)), lit(text("a")))
	role := of(attr(api.CSubject, "role"))
	return [][][]api.Node{
		{lit(boolean(0)), do(api.NHas, role, lit(id("admin"))), do(api.NAnd, mistake, lit(boolean(0)))},
		{mistake, lit(whole(1)), do(api.NOne, role), do(api.NLess, do(api.NSize, of(must(api.CCase, "none"))), lit(whole(1)))},
		{nil, {}, lit(boolean(1)), do(api.NHas, role, lit(id("clerk"))), do(api.NOr, lit(boolean(1)), mistake)},
	}[truth]
}

// Duties

// dutiesOf are two duties on each of both decisions, between each other, that a name tells from others.
func dutiesOf(name string) []api.Obl {
	return []api.Obl{
		{On: 1, Kind: api.OLog, Arg: "a" + name},
		{On: 2, Kind: api.ONotify, Arg: "b" + name},
		{On: 2, Kind: api.OReview, Arg: "c" + name},
		{On: 1, Kind: api.ORedact, Arg: "d" + name},
	}
}

// dutiesOn are those of them that stand beside m.
func dutiesOn(name string, m api.Mark) []api.Obl {
	switch m {
	case api.Permit:
		return []api.Obl{{On: 1, Kind: api.OLog, Arg: "a" + name}, {On: 1, Kind: api.ORedact, Arg: "d" + name}}
	case api.Deny:
		return []api.Obl{{On: 2, Kind: api.ONotify, Arg: "b" + name}, {On: 2, Kind: api.OReview, Arg: "c" + name}}
	}
	return nil
}

// Rules and policies of which it is known what they come to

// asRule is a rule, and what it must come to over known.
type asRule struct {
	is   api.Rule
	want api.Result
}

// ruleOf has the answers of its target and its condition, each come by in one of the ways.
func ruleOf(name string, deny bool, t, c, way int, m api.Mark) asRule {
	ts, cs := targets(t), conds(c)
	r := api.Rule{Id: name, Deny: deny, Target: ts[way%len(ts)], Cond: cs[way%len(cs)], Obls: dutiesOf(name)}
	return asRule{r, api.Result{Mark: m, Obls: dutiesOn(name, m)}}
}

// rulesTo are rules that come to m: in each pairing of answers in which one can. IndetDP is no rule's.
func rulesTo(m api.Mark, name string, way int) []asRule {
	switch m {
	case api.NotApplicable:
		var l []asRule
		for _, deny := range []bool{false, true} {
			l = append(l, ruleOf(name, deny, 0, 0, way, m), ruleOf(name, deny, 0, 1, way, m), ruleOf(name, deny, 0, 2, way, m), ruleOf(name, deny, 2, 0, way, m))
		}
		return l
	case api.Permit, api.Deny:
		return []asRule{ruleOf(name, m == api.Deny, 2, 2, way, m)}
	case api.IndetP, api.IndetD:
		var l []asRule
		for c := range 3 {
			l = append(l, ruleOf(name, m == api.IndetD, 1, c, way, m))
		}
		return append(l, ruleOf(name, m == api.IndetD, 2, 1, way, m))
	}
	return nil
}

// asPolicy is a policy, and what it must come to over known.
type asPolicy struct {
	is   api.Policy
	want api.Result
}

func plain(name string, alg int, l ...api.Rule) api.Policy {
	return api.Policy{Id: name, Alg: alg, Rules: l, Obls: dutiesOf(name)}
}

func set(name string, alg int, l ...api.Policy) api.Policy {
	return api.Policy{Id: name, Set: true, Alg: alg, Kids: l, Obls: dutiesOf(name)}
}

// under is the same policy for others: whom it is for comes to that.
func under(truth int, p api.Policy, way int) api.Policy {
	ts := targets(truth)
	p.Target = ts[way%len(ts)]
	return p
}

// owing is a policy, what it must come to, and the duties of whose names stand beside that, in order.
func owing(p api.Policy, m api.Mark, names ...string) asPolicy {
	want := api.Result{Mark: m}
	for _, name := range names {
		want.Obls = append(want.Obls, dutiesOn(name, m)...)
	}
	return asPolicy{p, want}
}

// policiesTo come to m, by rules, by kids, by what the algorithm answers by itself, and by targets.
func policiesTo(m api.Mark, name string, way int) []asPolicy {
	a, b, k := name+"a", name+"b", name+"k"
	permit, deny := rulesTo(api.Permit, a, way)[0].is, rulesTo(api.Deny, b, way)[0].is
	mightDeny := rulesTo(api.IndetD, b, way)[way%4].is
	var l []asPolicy
	for _, r := range rulesTo(m, a, way) {
		l = append(l, owing(plain(name, api.FirstApplicable, r.is), m, a, name))
	}
	switch m {
	case api.NotApplicable:
		l = append(l,
			owing(plain(name, api.PermitOverrides), m),
			owing(set(name, api.OnlyOne), m),
			owing(under(0, plain(name, api.DenyUnless, permit), way), m),
			owing(under(1, set(name, api.DenyOverrides), way), m))
	case api.Permit:
		l = append(l,
			owing(plain(name, api.PermitUnless), m, name),
			owing(plain(name, api.PermitOverrides, deny, permit), m, a, name),
			owing(set(name, api.OnlyOne, plain(k, api.DenyUnless, mightDeny, permit)), m, a, k, name))
	case api.Deny:
		l = append(l,
			owing(set(name, api.DenyUnless), m, name),
			owing(plain(name, api.DenyOverrides, permit, deny), m, b, name),
			owing(set(name, api.FirstApplicable, plain(k, api.PermitUnless, deny, permit)), m, b, k, name))
	case api.IndetP:
		l = append(l,
			owing(under(1, plain(name, api.PermitOverrides, deny, permit), way), m),
			owing(set(name, api.DenyOverrides, under(1, plain(k, api.PermitUnless), way)), m))
	case api.IndetD:
		l = append(l,
			owing(under(1, plain(name, api.DenyOverrides, permit, deny), way), m),
			owing(set(name, api.PermitOverrides, under(1, set(k, api.DenyUnless), way)), m))
	case api.IndetDP:
		l = append(l,
			owing(plain(name, api.DenyOverrides, permit, mightDeny), m),
			owing(set(name, api.OnlyOne, plain(k, api.DenyUnless), plain(k+"2", api.PermitUnless)), m),
			owing(set(name, api.OnlyOne, under(1, plain(k, api.PermitOverrides, permit), way)), m),
			owing(under(1, plain(name, api.DenyOverrides, mightDeny, permit), way), m))
	}
	return l
}

// pickOf is one of several, another one for each way.
func pickOf[T any](l []T, way int) T { return l[way%len(l)] }
