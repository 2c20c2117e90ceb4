package compile_test

import (
	"math"
	"reflect"
	"slices"
	"strconv"
	"strings"
	"testing"

	"bailiff/api"
	"bailiff/compile"
	"bailiff/eval"
	"bailiff/policy"
	"bailiff/vars"
)

// P17.1, P17.4 of policies that aren't right

// wrong wants no diagram, and no decision.
func wrong(t *testing.T, what string, p api.Policy) {
	t.Helper()
	refused(t, what, p, api.ErrArg)
	for _, g := range [][]api.Given{nil, x(whole(1)), {{}}} {
		if r, err := compile.Decide(p, g); r.Mark != 0 || len(r.Obls) != 0 || err != api.ErrArg {
			t.Fatalf("%s: of %+v: %s, error %d", what, g, told(r), err)
		}
	}
}

func plain() api.Policy {
	return simple("p", api.DenyOverrides, owing("r", false, allOf(0), cond(1)), owing("d", true, allOf(2), nil))
}

func TestWrongOnes(t *testing.T) {
	holds(t, "right", plain())
	wrong(t, "zero", api.Policy{})
	each := func(what string, change func(p *api.Policy)) {
		t.Helper()
		p := plain()
		change(&p)
		wrong(t, what, p)
		p.Id = "q"
		wrong(t, what+", in a set", set("s", api.FirstApplicable, p))
		wrong(t, what+", behind one that decides", set("s", api.FirstApplicable, simple("a", api.DenyUnless), set("u", api.OnlyOne, p)))
	}
	for _, name := range []string{"", "A", "9", "_", "a b", "a.b", "abcdefghijklmnopq"} {
		wrong(t, "no name", simple(name, api.DenyUnless))
		each("a rule without a name", func(p *api.Policy) { p.Rules[1].Id = name })
	}
	for _, alg := range []int{0, 7, -1, 1<<32 + 1, api.OnlyOne} {
		each("no algorithm of rules", func(p *api.Policy) { p.Alg = alg })
	}
	for _, alg := range []int{0, 7, -1, 1<<32 + 1} {
		wrong(t, "no algorithm of kids", set("s", alg, plain()))
	}
	each("a set of rules", func(p *api.Policy) { p.Set = true })
	each("a policy of kids", func(p *api.Policy) { p.Rules, p.Kids = nil, []api.Policy{simple("k", api.DenyUnless)} })
	each("rules and kids", func(p *api.Policy) { p.Kids = []api.Policy{simple("k", api.DenyUnless)} })
	each("two rules of one name", func(p *api.Policy) { p.Rules[1].Id = p.Rules[0].Id })
	each("seventeen rules", func(p *api.Policy) { p.Rules = manyRules("x", maxKids+1) })
	each("seventeen kids", func(p *api.Policy) { *p = set("q", api.DenyUnless, manyKids(maxKids+1, 0)...) })
	each("sixty-five rules", func(p *api.Policy) { *p = set("q", api.DenyUnless, manyKids(5, 13)...) })
	each("too deep", func(p *api.Policy) {
		*p = set("q", 1, set("a", 1, set("b", 1, set("c", 1, simple("e", 1)))))
	})
	for what, l := range map[string]api.Target{
		"an AnyOf without AllOfs":  {{}},
		"an AllOf without matches": {{{}}},
		"nine AnyOfs":              slices.Repeat(allOf(0), maxMatch+1),
		"nine AllOfs":              {slices.Repeat(allOf(0)[0], maxMatch+1)},
		"nine matches":             allOf(0, 0, 0, 0, 0, 0, 0, 0, 0),
		"no Op":                    {{{{Attr: numbered(0), Op: 4, Value: whole(1)}}}},
		"no category":              {{{asks(0), {Attr: api.Attr{Name: "a"}, Op: api.MEq, Value: whole(1)}}}},
		"no value":                 {{{{Attr: numbered(0), Op: api.MEq, Value: boolean(2)}}}},
	} {
		each(what, func(p *api.Policy) { p.Target = l })
		each(what+", of a rule", func(p *api.Policy) { p.Rules[1].Target = l })
	}
	for what, l := range map[string][]api.Node{
		"a bag":              of(numbered(0)),
		"two values":         slices.Concat(lit(whole(1)), lit(whole(1))),
		"no value":           lit(tick(-1)),
		"thirty-three nodes": slices.Concat(lit(boolean(1)), slices.Repeat(do(api.NNot), maxExpr)),
	} {
		each("a condition: "+what, func(p *api.Policy) { p.Rules[0].Cond = l })
	}
	for what, l := range map[string][]api.Obl{
		"nine":              slices.Repeat([]api.Obl{duty(1, "a")}, maxObls+1),
		"on none of both":   {duty(3, "a")},
		"of no kind":        {{On: 1, Kind: 5, Arg: "a"}},
		"without an object": {duty(1, "")},
	} {
		each("duties: "+what, func(p *api.Policy) { p.Obls = l })
		each("duties of a rule: "+what, func(p *api.Policy) { p.Rules[1].Obls = l })
	}
}

func manyRules(id string, n int) []api.Rule {
	var l []api.Rule
	for i := range n {
		l = append(l, api.Rule{Id: id + strconv.Itoa(i)})
	}
	return l
}

func manyKids(n, rules int) []api.Policy {
	var l []api.Policy
	for i := range n {
		id := "k" + string(rune('a'+i))
		l = append(l, simple(id, api.DenyUnless, manyRules(id, rules)...))
	}
	return l
}

// That a policy isn't right is told ahead of its having too many atoms or branches.
func TestWhichComesFirst(t *testing.T) {
	for what, p := range map[string]api.Policy{"too many atoms": inRow(maxVars, func(int) bool { return true }), "too many branches": owedFor(maxKids)} {
		p.Target = allOf(99)
		refused(t, what, p, api.ErrLimit)
		decides(t, what, p, nil, decided(t, p, nil))
		q := p
		q.Alg = 0
		wrong(t, what+", no algorithm", q)
		q = p
		q.Obls = []api.Obl{{}}
		wrong(t, what+", a wrong duty", q)
		wrong(t, what+", a wrong kid behind it", set("t", api.FirstApplicable, p, simple("q", 0)))
		wrong(t, what+", a name that stands twice", set(p.Id, api.FirstApplicable, p))
		wrong(t, what+", too many kids", set("t", api.FirstApplicable, append([]api.Policy{p}, manyKids(maxKids, 0)...)...))
		refused(t, what+", all right", set("t", api.FirstApplicable, append([]api.Policy{p}, manyKids(maxKids-1, 0)...)...), api.ErrLimit)
	}
}

// R1: policies that hold themselves, and long ones, are at their end, too.
func TestPoliciesWithoutEnd(t *testing.T) {
	kids := make([]api.Policy, maxKids)
	for i := range kids {
		kids[i] = set("k"+strconv.Itoa(i), api.DenyUnless, kids...)
	}
	wrong(t, "itself", kids[0])
	p := set("p", api.FirstApplicable, plain())
	p.Kids[0] = set("q", api.FirstApplicable, p.Kids...)
	p.Kids[0].Kids = p.Kids
	wrong(t, "itself", p)
	wrong(t, "a long name", simple(strings.Repeat("a", 1<<24), api.DenyUnless))
	wrong(t, "many rules", simple("p", api.DenyUnless, slices.Repeat([]api.Rule{{Id: "r"}}, 1<<16)...))
	wrong(t, "many kids", set("p", api.DenyUnless, slices.Repeat([]api.Policy{plain()}, 1<<16)...))
	wrong(t, "a long target", api.Policy{Id: "p", Alg: 1, Target: slices.Repeat(allOf(0), 1<<16)})
	wrong(t, "many duties", api.Policy{Id: "p", Alg: 1, Obls: slices.Repeat(own("p"), 1<<16)})
}

// R1: requests of any kind.
func TestOddRequests(t *testing.T) {
	p := read(t, "set s denyover when (case.x! = 1 or env.y < @5) { policy p first { permit r if (has case.x 1) on permit log a; deny q when (case.x > 2) if (less (one env.y) @9) on deny log b; } policy u permitover { deny v if (eq (size case.x!) 1); permit w when (subject.id = #ann) on permit log c; } }")
	d := diagram(t, "odd requests", p)
	want := tableOf(p, atoms(t, p))
	for _, g := range [][]api.Given{
		nil, {}, {{}}, x(), x(whole(1)), x(whole(1), text("a")), x(api.Value{}), x(api.Value{Kind: 99, N: -1, S: "?"}),
		{given(0, ""), given(-1, "x", whole(1)), given(9, "x", whole(1))},
		{given(api.CCase, "x", whole(3)), given(api.CCase, "x", whole(1))},
		{given(api.CCase, "x"), given(api.CCase, "x", whole(1))},
		{given(api.CEnv, "y", tick(4)), given(api.CSubject, "id", api.Value{Kind: api.KId, S: "ann"})},
		{given(api.CEnv, "y", tick(-1)), given(api.CSubject, "id", text("ann"))},
		{given(api.CEnv, "y", tick(7), tick(3), tick(1<<41)), given(api.CCase, "x", whole(9))},
		{given(api.CCase, strings.Repeat("x", 1<<20), whole(1))},
		append(slices.Repeat([]api.Given{given(api.CCase, "z", whole(1))}, 1<<12), x(slices.Repeat([]api.Value{whole(5)}, 1<<12)...)...),
		x(whole(math.MinInt), whole(math.MaxInt)),
	} {
		var row []int
		for _, a := range atoms(t, p) {
			row = append(row, vars.Ask(a, g))
		}
		r := decided(t, p, g)
		comes(t, "odd requests", d, g, r, asked(want.numbers, row))
		answers(t, "odd requests", d, row, r)
		decides(t, "odd requests", p, g, r)
	}
}

// What any field of a policy is made to be; what a right one becomes thereby policy.Right tells.

// fields are all that a thing is made of, itself too, in an order that is the same each time.
func fields(v reflect.Value) []reflect.Value {
	l := []reflect.Value{v}
	switch v.Kind() {
	case reflect.Struct:
		for i := range v.NumField() {
			l = append(l, fields(v.Field(i))...)
		}
	case reflect.Slice:
		for i := range v.Len() {
			l = append(l, fields(v.Index(i))...)
		}
	}
	return l
}

// others are what may stand in its place.
func others(v reflect.Value) []reflect.Value {
	var l []reflect.Value
	put := func(x any) { l = append(l, reflect.ValueOf(x).Convert(v.Type())) }
	switch v.Kind() {
	case reflect.String:
		for _, s := range []string{"", "X", "x y", "p", "a0", v.String() + "0"} {
			put(s)
		}
	case reflect.Int:
		for _, n := range []int{0, -1, 1, 2, 3, 4, 5, 6, 7, 14, 1<<32 + 1} {
			put(n)
		}
	case reflect.Bool:
		put(!v.Bool())
	case reflect.Struct:
		l = append(l, reflect.Zero(v.Type()))
	case reflect.Slice:
		l = append(l, reflect.Zero(v.Type()), reflect.AppendSlice(reflect.Zero(v.Type()), reflect.AppendSlice(v, v)), reflect.MakeSlice(v.Type(), 1, 1), reflect.MakeSlice(v.Type(), 9, 9))
	}
	return l
}

// Each field of a policy, each list and each thing in one, made another one.
func TestEachFieldChanged(t *testing.T) {
	errs := map[api.Errno]int{}
	again := func() api.Policy {
		p := set("s", api.PermitOverrides, plain(), simple("q", api.PermitUnless, owing("u", true, nil, do(api.NHas, of(numbered(0)), lit(whole(3))))))
		p.Target, p.Kids[1].Target, p.Obls = allOf(1), api.Target{{{asks(2)}, {asks(0), asks(4)}}}, own("s")
		return p
	}
	p := again()
	for i, f := range fields(reflect.ValueOf(&p).Elem()) {
		for _, other := range others(f) {
			q := again()
			fields(reflect.ValueOf(&q).Elem())[i].Set(other)
			err := policy.Right(q)
			errs[err]++
			if err != api.OK {
				wrong(t, "changed", q)
				continue
			}
			d := diagram(t, "changed", q)
			l := atoms(t, q)
			m := maker{x: uint64(i)}
			for range 5 {
				row := m.row(len(l))
				answers(t, "changed", d, row, answered{l, row}.policy(q))
				g := m.request()
				r, err := eval.Policy(q, g)
				if got, n := d.Decide(g); !same(got, r) || n > len(l) || err != api.OK {
					t.Fatalf("%+v of %+v: %s, asked %d, not %s, error %d", q, g, told(got), n, told(r), err)
				}
			}
		}
	}
	if errs[api.OK] < 200 || errs[api.ErrArg] < 500 || errs[api.ErrLimit] < 5 {
		t.Error(errs)
	}
}
