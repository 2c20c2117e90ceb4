package vars_test

import (
	"math"
	"reflect"
	"slices"
	"strconv"
	"strings"
	"testing"

	"bailiff/api"
	"bailiff/policy"
)

// P15.1 of policies that aren't right

func manyRules(name string, n int) []api.Rule {
	var l []api.Rule
	for i := range n {
		l = append(l, api.Rule{Id: name + strconv.Itoa(i), Cond: lit(whole(i))})
	}
	return l
}

func set(name string, kids ...api.Policy) api.Policy {
	return api.Policy{Id: name, Set: true, Alg: api.DenyOverrides, Kids: kids}
}

func manyKids(n, rules int) []api.Policy {
	var l []api.Policy
	for i := range n {
		name := "k" + strconv.Itoa(i)
		l = append(l, api.Policy{Id: name, Alg: api.DenyOverrides, Rules: manyRules(name+"_", rules)})
	}
	return l
}

// Written out, each way that policy.Right knows: its limits are told as ErrArg, too.
func TestRefusalsWrittenOut(t *testing.T) {
	yes := asks(api.MEq, whole(1))
	p := simple(targetOf(first(1)), manyRules("r", 1)...)
	lists(t, "right", p, numbered(0), ofCond(lit(whole(0))))
	wrong := func(what string, change func(p *api.Policy)) {
		t.Helper()
		q := simple(targetOf(first(1)), manyRules("r", 2)...)
		change(&q)
		refused(t, what, q, api.ErrArg)
		q.Id = "q"
		refused(t, what+", in a set", set("s", q), api.ErrArg)
		refused(t, what+", behind others", set("s", p, set("u", q)), api.ErrArg)
	}
	refused(t, "zero", api.Policy{}, api.ErrArg)
	for _, name := range []string{"", "A", "9", "_", "a b", "a.b", "abcdefghijklmnopq"} {
		refused(t, "no name", api.Policy{Id: name, Alg: 1, Target: p.Target}, api.ErrArg)
		wrong("a rule without a name", func(p *api.Policy) { p.Rules[0].Id = name })
	}
	for _, alg := range []int{0, 7, -1, 1<<32 + 1, api.OnlyOne} {
		wrong("no algorithm of rules", func(p *api.Policy) { p.Alg = alg })
	}
	wrong("a set of rules", func(p *api.Policy) { p.Set = true })
	wrong("a policy of kids", func(p *api.Policy) { p.Rules, p.Kids = nil, manyKids(1, 1) })
	wrong("rules and kids", func(p *api.Policy) { p.Kids = manyKids(1, 1) })
	wrong("a set of rules and kids", func(p *api.Policy) { p.Set, p.Kids = true, manyKids(1, 1) })
	wrong("two rules of one name", func(p *api.Policy) { p.Rules[1].Id = p.Rules[0].Id })
	wrong("a rule named like the policy", func(p *api.Policy) { p.Id, p.Rules[0].Id = "q", "q" })
	wrong("seventeen rules", func(p *api.Policy) { p.Rules = manyRules("x", maxKids+1) })
	wrong("seventeen kids", func(p *api.Policy) { p.Set, p.Rules, p.Kids = true, nil, manyKids(maxKids+1, 0) })
	wrong("sixty-five rules", func(p *api.Policy) { p.Set, p.Rules, p.Kids = true, nil, manyKids(5, 13) })
	wrong("too deep", func(p *api.Policy) {
		p.Set, p.Rules, p.Kids = true, nil, []api.Policy{set("a", set("b", set("c", manyKids(1, 1)...)))}
	})
	for what, target := range map[string]api.Target{
		"an AnyOf without AllOfs":  {{}},
		"an AllOf without matches": {{{}}},
		"nine AnyOfs":              slices.Repeat(api.Target{{{yes}}}, maxMatch+1),
		"nine AllOfs":              {slices.Repeat([][]api.Match{{yes}}, maxMatch+1)},
		"nine matches":             {{slices.Repeat([]api.Match{yes}, maxMatch+1)}},
		"no category":              {{{{Attr: attr(0, "x"), Op: api.MEq, Value: whole(1)}}}},
		"no attribute's name":      {{{yes, {Attr: attr(1, ""), Op: api.MEq, Value: whole(1)}}}},
		"no Op":                    {{{asks(4, whole(1))}}},
		"no value":                 {{{yes}}, {{asks(api.MEq, boolean(2))}}},
	} {
		wrong(what, func(p *api.Policy) { p.Target = target })
		wrong(what+", of a rule", func(p *api.Policy) { p.Rules[1].Target = target })
	}
	for what, cond := range map[string][]api.Node{
		"a bag":              of(attr(api.CCase, "x")),
		"two values":         slices.Concat(lit(whole(1)), lit(whole(1))),
		"of nothing":         do(api.NNot),
		"no node":            {{}},
		"an attribute's":     {{Op: api.NLit, Value: whole(1), Attr: attr(1, "x")}},
		"no value":           lit(tick(-1)),
		"no attribute":       do(api.NOne, of(attr(9, "x"))),
		"thirty-three nodes": slices.Concat(lit(boolean(1)), slices.Repeat(do(api.NNot), maxExpr)),
	} {
		wrong("a condition: "+what, func(p *api.Policy) { p.Rules[1].Cond = cond })
	}
	for what, duties := range map[string][]api.Obl{
		"nine":              slices.Repeat([]api.Obl{{On: 1, Kind: 1, Arg: "a"}}, 9),
		"on none of both":   {{On: 3, Kind: 1, Arg: "a"}},
		"of no kind":        {{On: 1, Kind: 5, Arg: "a"}},
		"without an object": {{On: 1, Kind: 1}},
	} {
		wrong("duties: "+what, func(p *api.Policy) { p.Obls = duties })
		wrong("duties of a rule: "+what, func(p *api.Policy) { p.Rules[0].Obls = duties })
	}
}

// That a policy isn't right is told ahead of its having too many atoms.
func TestWrongAheadOfTooMany(t *testing.T) {
	p := simple(targetOf(first(maxVars+1)), manyRules("r", 3)...)
	refused(t, "too many", p, api.ErrLimit)
	p.Rules[2].Cond = lit(boolean(2))
	refused(t, "too many, and a wrong condition", p, api.ErrArg)
	p.Rules[2].Cond = nil
	p.Rules[0].Obls = []api.Obl{{}}
	refused(t, "too many, and a wrong duty", p, api.ErrArg)
	p.Rules[0].Obls, p.Rules = nil, manyRules("r", maxKids+1)
	refused(t, "too many, and too many rules", p, api.ErrArg)
	p.Rules, p.Alg = nil, 0
	refused(t, "too many, and no algorithm", p, api.ErrArg)
	p.Alg = api.FirstApplicable
	refused(t, "too many", p, api.ErrLimit)
}

// A policy that holds itself is at its end, too.
func TestPoliciesThatHoldThemselves(t *testing.T) {
	kids := make([]api.Policy, maxKids)
	for i := range kids {
		kids[i] = set("k"+strconv.Itoa(i), kids...)
	}
	refused(t, "itself", kids[0], api.ErrArg)
	p := set("p", simple(nil))
	p.Kids[0] = set("q", p.Kids...)
	p.Kids[0].Kids = p.Kids
	refused(t, "itself", p, api.ErrArg)
}

// What any field of a policy is made to be; what a right one becomes thereby policy.Right tells.

// fields are all that a thing is made of, itself too, in an order that is the same each time.
func fields(v reflect.Value) []reflect.Value {
	l := []reflect.Value{v}
	switch v.Kind() {
	case reflect.Struct:
		for i := range v.NumField() {
			l = append(l, fields(v.Field(i))...)
		}
	case reflect.Slice:
		for i := range v.Len() {
			l = append(l, fields(v.Index(i))...)
		}
	}
	return l
}

// others are what may stand in its place.
func others(v reflect.Value) []reflect.Value {
	var l []reflect.Value
	put := func(x any) { l = append(l, reflect.ValueOf(x).Convert(v.Type())) }
	switch v.Kind() {
	case reflect.String:
		for _, s := range []string{"", "X", "x y", "abcdefghijklmnopq", "top", "m1", "l2", strings.Repeat("x", 65), v.String() + "0"} {
			put(s)
		}
	case reflect.Int:
		for _, n := range []int{0, -1, 1, 2, 3, 4, 5, 6, 7, 14, 1<<32 + 1, 1<<40 + 1, math.MinInt} {
			put(n)
		}
	case reflect.Bool:
		put(!v.Bool())
	case reflect.Struct:
		l = append(l, reflect.Zero(v.Type()))
	case reflect.Slice:
		l = append(l, reflect.Zero(v.Type()), reflect.AppendSlice(reflect.Zero(v.Type()), reflect.AppendSlice(v, v)), reflect.MakeSlice(v.Type(), 1, 1), reflect.MakeSlice(v.Type(), 9, 9), reflect.MakeSlice(v.Type(), 33, 33))
	}
	return l
}

// threeDeep is a right policy, with something in each of its lists.
func threeDeep() api.Policy {
	n := 0
	part := func() (api.Target, []api.Node, []api.Obl) {
		n++
		return api.Target{{{asks(api.MLess, whole(n)), asks(api.MEq, text("a"))}, {asks(api.MMore, tick(n))}}, {{asks(api.MEq, id("x"))}}},
			do(api.NAnd, do(api.NHas, of(must(api.CCase, "x")), lit(whole(n))), lit(boolean(1))), []api.Obl{{On: 1, Kind: api.OLog, Arg: "x"}, {On: 2, Kind: api.ONotify, Arg: "y"}}
	}
	rule := func(name string) api.Rule {
		r := api.Rule{Id: name}
		r.Target, r.Cond, r.Obls = part()
		return r
	}
	low := simple(nil, rule("l1"), rule("l2"))
	low.Target, _, low.Obls = part()
	middle := set("middle", low, api.Policy{Id: "m1", Alg: api.PermitUnless})
	middle.Target, _, middle.Obls = part()
	top := set("top", middle, api.Policy{Id: "t1", Alg: api.DenyUnless, Rules: []api.Rule{rule("t2")}})
	top.Target, _, top.Obls = part()
	return top
}

// Each field of it, each list and each thing in one, made another one.
func TestEachFieldChanged(t *testing.T) {
	errs := map[api.Errno]int{}
	p := threeDeep()
	for i, f := range fields(reflect.ValueOf(&p).Elem()) {
		for _, other := range others(f) {
			q := threeDeep()
			fields(reflect.ValueOf(&q).Elem())[i].Set(other)
			err := policy.Right(q)
			errs[err]++
			if err != api.OK {
				refused(t, "changed", q, api.ErrArg)
			} else {
				lists(t, "changed", q, once(asked(q))...)
			}
		}
	}
	if errs[api.OK] < 500 || errs[api.ErrArg] < 1000 || errs[api.ErrLimit] < 50 {
		t.Error(errs)
	}
}

// asked are a policy's atoms as they stand there, each as often as it does: found by the types of what it is made of.
func asked(p api.Policy) []api.Atom {
	var l []api.Atom
	for _, f := range fields(reflect.ValueOf(p)) {
		switch x := f.Interface().(type) {
		case api.Match:
			l = append(l, ofMatch(x))
		case []api.Node:
			if len(x) > 0 {
				l = append(l, ofCond(x))
			}
		}
	}
	return l
}
