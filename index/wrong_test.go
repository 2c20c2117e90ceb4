package index_test

import (
	"math"
	"reflect"
	"slices"
	"strconv"
	"strings"
	"testing"

	"bailiff/api"
	"bailiff/policy"
)

// P18.3 of policies that aren't right, and requests that aren't

// threeDeep is a right policy with something in each of its lists: by truths the first and the second of its sets' kids are met, by others' requests none is.
func threeDeep() api.Policy {
	yes := all(coming(2))
	rule := func(name string) api.Rule {
		return api.Rule{Id: name, Deny: true, Target: api.Target{{{coming(2)}, {coming(1)}}}, Cond: do(api.NHas, of(attr(api.CCase, "yes")), lit(whole(1))), Obls: own(name)}
	}
	low := under(yes, set("low", api.DenyOverrides, under(yes, simple("lowest", api.DenyOverrides, rule("r1"))), under(all(coming(0)), simple("out1", api.DenyUnless, rule("r2")))))
	return set("top", api.DenyOverrides, low, under(yes, simple("other", api.PermitUnless, rule("r3"))), under(all(coming(0)), set("out2", api.PermitOverrides, simple("out3", api.DenyUnless, rule("r4")))))
}

func requests() [][]api.Given { return [][]api.Given{truths(), nil, x(whole(1)), {{}}} }

// wrong wants no decision, whoever is picked.
func wrong(t *testing.T, what string, p api.Policy) {
	t.Helper()
	if policy.Right(p) == api.OK {
		t.Fatalf("%s: right", what)
	}
	for _, g := range requests() {
		refused(t, what, p, g)
	}
}

// everywhere puts a policy that isn't right at each depth, among kids that are picked and among such as aren't.
func everywhere(t *testing.T, what string, bad api.Policy) {
	t.Helper()
	wrong(t, what, bad)
	for truth := range 3 {
		for _, l := range []api.Target{all(coming(truth)), all(by(api.MLess, coming(truth)))} {
			// Ahead of the fault's own target, if that is what is wrong.
			kid := set("in1", api.FirstApplicable, bad)
			if len(bad.Target) == 0 {
				kid = under(l, bad)
			}
			wrong(t, what+", in a set", set("in2", api.DenyOverrides, under(l, kid)))
			wrong(t, what+", behind one that decides", set("in2", api.FirstApplicable, simple("a", api.PermitUnless), under(l, set("in3", api.OnlyOne, kid))))
			wrong(t, what+", under a target of others", under(all(coming(0)), set("in2", api.DenyUnless, under(l, kid))))
			wrong(t, what+", ahead of others", set("in2", api.PermitOverrides, under(all(coming(0)), set("in3", api.DenyUnless, kid, simple("b", api.DenyUnless))), simple("a", api.PermitUnless)))
		}
	}
}

func manyRules(name string, n int) []api.Rule {
	var l []api.Rule
	for i := range n {
		l = append(l, api.Rule{Id: name + strconv.Itoa(i)})
	}
	return l
}

// manyKids are for nobody, so that none of them is picked.
func manyKids(n, rules int) []api.Policy {
	var l []api.Policy
	for i := range n {
		name := "k" + string(rune('a'+i))
		l = append(l, under(all(coming(0)), simple(name, api.DenyUnless, manyRules(name, rules)...)))
	}
	return l
}

// Each way in which policy.Right refuses, written out.
func TestRefusalsWrittenOut(t *testing.T) {
	ok := simple("p", api.DenyOverrides, api.Rule{Id: "r"})
	asItStands(t, "right", ok, nil)
	wrong(t, "zero", api.Policy{})
	everywhere(t, "zero", api.Policy{})
	for _, name := range []string{"", "A", "9", "_", "a b", "a.b", "ä", strings.Repeat("a", maxName+1)} {
		everywhere(t, "no name", simple(name, api.DenyUnless))
		everywhere(t, "a rule without a name", simple("p", api.DenyUnless, api.Rule{Id: name}))
	}
	for _, alg := range []int{0, 7, -1, 1<<32 + 1} {
		everywhere(t, "no algorithm of rules", simple("p", alg))
		everywhere(t, "no algorithm of kids", set("p", alg))
	}
	everywhere(t, "only of rules", simple("p", api.OnlyOne))
	everywhere(t, "a set of rules", api.Policy{Id: "p", Set: true, Alg: 1, Rules: ok.Rules})
	everywhere(t, "a policy of kids", api.Policy{Id: "p", Alg: 1, Kids: []api.Policy{under(all(coming(0)), simple("k", 1))}})
	everywhere(t, "two rules of one name", simple("p", 1, api.Rule{Id: "r"}, api.Rule{Id: "r"}))
	everywhere(t, "a rule named like its policy", simple("p", 1, api.Rule{Id: "p"}))
	everywhere(t, "two kids of one name", set("p", 1, under(all(coming(0)), simple("k", 1)), under(all(coming(0)), simple("k", 1))))
	everywhere(t, "a kid named like its set", set("p", 1, under(all(coming(0)), simple("p", 1))))
	everywhere(t, "seventeen rules", simple("p", 1, manyRules("x", maxKids+1)...))
	everywhere(t, "seventeen kids", set("p", 1, manyKids(maxKids+1, 0)...))
	everywhere(t, "sixty-five rules", set("p", 1, manyKids(5, 13)...))
	everywhere(t, "too deep", set("p", 1, under(all(coming(0)), set("q", 1, under(all(coming(0)), set("s", 1, set("u", 1, simple("v", 1))))))))
	for what, l := range map[string]api.Target{
		"an AnyOf without AllOfs":     {{}},
		"an AllOf without matches":    {{{}}},
		"that behind one that is met": {{{coming(2)}}, {{coming(2)}, {}}},
		"that behind one that isn't":  {{{coming(0)}}, {}},
		"nine AnyOfs":                 slices.Repeat(all(coming(0)), maxMatch+1),
		"nine AllOfs":                 {slices.Repeat([][]api.Match{{coming(0)}}, maxMatch+1)},
		"nine matches":                all(slices.Repeat([]api.Match{coming(0)}, maxMatch+1)...),
		"no Op":                       all(coming(0), by(4, coming(0))),
		"no category":                 all(coming(0), api.Match{Attr: attr(5, "a"), Op: 1, Value: whole(1)}),
		"no attribute's name":         all(api.Match{Attr: attr(3, ""), Op: 1, Value: whole(1)}),
		"no value":                    all(api.Match{Attr: attr(3, "no"), Op: 1, Value: tick(-1)}),
	} {
		everywhere(t, what, under(l, simple("p", api.DenyUnless)))
		everywhere(t, what+", of a rule", simple("p", api.DenyUnless, api.Rule{Id: "r", Target: l}))
	}
	for what, l := range map[string][]api.Node{
		"a bag":              of(attr(3, "x")),
		"two values":         slices.Concat(lit(whole(1)), lit(whole(1))),
		"no value":           lit(boolean(2)),
		"thirty-three nodes": slices.Concat(lit(boolean(1)), slices.Repeat(do(api.NNot), maxExpr)),
	} {
		everywhere(t, "a condition: "+what, simple("p", api.DenyUnless, api.Rule{Id: "r", Cond: l}))
	}
	for what, l := range map[string][]api.Obl{
		"nine":              slices.Repeat([]api.Obl{duty(1, "a")}, maxObls+1),
		"on none of both":   {duty(3, "a")},
		"of no kind":        {{On: 1, Kind: 5, Arg: "a"}},
		"without an object": {duty(2, "")},
	} {
		everywhere(t, "duties: "+what, api.Policy{Id: "p", Alg: api.DenyUnless, Obls: l})
		everywhere(t, "duties of a rule: "+what, simple("p", api.DenyUnless, api.Rule{Id: "r", Obls: l}))
	}
}

// At the bounds, where one thing more is refused, in kids that aren't picked.
func TestAtTheBounds(t *testing.T) {
	p := set("s", api.PermitUnless, manyKids(maxKids, maxAll/maxKids)...)
	for _, g := range requests() {
		asItStands(t, "as many as may be", p, g)
	}
	p.Kids[9].Rules = append(p.Kids[9].Rules, api.Rule{Id: "more"})
	wrong(t, "one rule more", p)
	deep := simple("d", api.DenyUnless)
	for _, name := range []string{"c", "b", "a"} {
		deep = set(name, api.FirstApplicable, under(all(coming(0)), deep))
	}
	asItStands(t, "as deep as may be", deep, truths())
	deep.Kids[0].Kids[0].Kids[0] = under(all(coming(0)), set("d", 1, simple("e", 1)))
	wrong(t, "one deeper", deep)
	p = set("s", api.DenyOverrides, under(all(coming(0)), simple("a", 1)), under(all(coming(0)), simple("b", 1)))
	asItStands(t, "unlike names", p, truths())
	p.Kids[1].Id = "s"
	wrong(t, "like names", p)
}

// R1: policies that hold themselves, and long ones, are at their end.
func TestPoliciesWithoutEnd(t *testing.T) {
	kids := make([]api.Policy, maxKids)
	for i := range kids {
		kids[i] = set("k"+strconv.Itoa(i), api.DenyUnless, kids...)
	}
	wrong(t, "itself", kids[0])
	for i := range kids {
		kids[i].Target = all(coming(2))
	}
	wrong(t, "itself, always picked", kids[0])
	p := set("p", api.FirstApplicable, simple("q", 1))
	p.Kids[0] = set("q", api.FirstApplicable, p.Kids...)
	p.Kids[0].Kids = p.Kids
	wrong(t, "itself", p)
	wrong(t, "a long name", simple(strings.Repeat("a", 1<<24), api.DenyUnless))
	wrong(t, "many rules", simple("p", api.DenyUnless, slices.Repeat([]api.Rule{{Id: "r"}}, 1<<16)...))
	wrong(t, "many kids", set("p", api.DenyUnless, slices.Repeat([]api.Policy{threeDeep()}, 1<<16)...))
	wrong(t, "a long target", under(slices.Repeat(all(coming(0)), 1<<16), simple("p", api.DenyUnless)))
}

// What any field of a policy is made to be; what a right one becomes thereby policy.Right tells.

// fields are all that a thing is made of, itself too, in an order that is the same each time.
func fields(v reflect.Value) []reflect.Value {
	l := []reflect.Value{v}
	switch v.Kind() {
	case reflect.Struct:
		for i := range v.NumField() {
			l = append(l, fields(v.Field(i))...)
		}
	case reflect.Slice:
		for i := range v.Len() {
			l = append(l, fields(v.Index(i))...)
		}
	}
	return l
}

// others are what may stand in its place.
func others(v reflect.Value) []reflect.Value {
	var l []reflect.Value
	put := func(x any) { l = append(l, reflect.ValueOf(x).Convert(v.Type())) }
	switch v.Kind() {
	case reflect.String:
		for _, s := range []string{"", "X", "x y", "top", "no", "yes", v.String() + "0"} {
			put(s)
		}
	case reflect.Int:
		for _, n := range []int{0, -1, 1, 2, 3, 4, 5, 6, 7, 14, 1<<32 + 1} {
			put(n)
		}
	case reflect.Bool:
		put(!v.Bool())
	case reflect.Struct:
		l = append(l, reflect.Zero(v.Type()))
	case reflect.Slice:
		l = append(l, reflect.Zero(v.Type()), reflect.AppendSlice(reflect.Zero(v.Type()), reflect.AppendSlice(v, v)), reflect.MakeSlice(v.Type(), 1, 1), reflect.MakeSlice(v.Type(), 9, 9))
	}
	return l
}

// Each field of a policy, each list and each thing in one, made another one: in kids that are picked and in such as aren't.
func TestEachFieldChanged(t *testing.T) {
	errs, out := map[api.Errno]int{}, 0
	p := threeDeep()
	for i, f := range fields(reflect.ValueOf(&p).Elem()) {
		for _, other := range others(f) {
			q := threeDeep()
			fields(reflect.ValueOf(&q).Elem())[i].Set(other)
			err := policy.Right(q)
			errs[err]++
			if err != api.OK {
				wrong(t, "changed", q)
				continue
			}
			for _, g := range requests() {
				asItStands(t, "changed", q, g)
				out += leavesOut(t, q, g)
			}
		}
	}
	if errs[api.OK] < 400 || errs[api.ErrArg] < 800 || errs[api.ErrLimit] < 10 || out < 1000 {
		t.Error(errs, out)
	}
}

// R1: requests of any kind.
func TestOddRequests(t *testing.T) {
	p := read(t, "set s denyover { policy a permitunless when (case.x = 1) and (case.y! = 1) { deny ad if (less (one case.y) 3) on deny log b; } on permit log a set b only when (case.y = 2, case.x > 0) { policy c first when (case.x = 3) { permit ca on permit log c; } policy d first when (case.x = \"a\") { deny da on deny log d; } } policy e denyunless when (subject.id = #ann) { } on deny log e policy f first { permit fa if (eq (size case.x) 1) on permit notify f; } } on permit log s on deny log t")
	y := func(bag ...api.Value) api.Given { return given(api.CCase, "y", bag...) }
	for _, g := range [][]api.Given{
		nil, {}, {{}}, x(), x(whole(1)), x(whole(3)), x(text("a")), x(whole(1), text("a")), x(api.Value{}), x(api.Value{Kind: 99, N: -1, S: "?"}), x(boolean(7)),
		{given(0, ""), given(-1, "x", whole(1)), given(9, "x", whole(1))},
		{given(api.CCase, "x", whole(3)), given(api.CCase, "x", whole(1)), y(whole(2))},
		{given(api.CCase, "x"), given(api.CCase, "x", whole(1)), y(whole(2))},
		{given(api.CCase, "x", whole(3)), y(whole(2))}, {given(api.CCase, "x", text("a")), y(whole(2))}, {given(api.CCase, "x", text("b")), y(whole(2))},
		{given(api.CCase, "x", whole(1)), y(whole(1))}, {given(api.CCase, "x", whole(1)), y(text("a"))}, {given(api.CCase, "x", whole(1)), y()},
		{given(api.CSubject, "id", id("ann")), y(whole(4))}, {given(api.CSubject, "id", text("ann"))}, {given(api.CSubject, "id", id(""))},
		{given(api.CCase, strings.Repeat("x", 1<<20), whole(1))},
		append(slices.Repeat([]api.Given{given(api.CCase, "z", whole(1))}, 1<<12), x(slices.Repeat([]api.Value{whole(5)}, 1<<12)...)...),
		append(x(append(slices.Repeat([]api.Value{whole(5)}, 1<<12), whole(1))...), y(whole(1), whole(2))),
		x(whole(math.MinInt), whole(math.MaxInt)),
	} {
		asItStands(t, "odd requests", p, g)
		leavesOut(t, p, g)
		in, _ := pickByTheWords(p.Kids, g)
		picks(t, "odd requests", p.Kids, g, in...)
	}
}
