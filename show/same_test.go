package show_test

import (
	"math"
	"reflect"
	"slices"
	"testing"

	"bailiff/api"
	"bailiff/parse"
	"bailiff/policy"
	"bailiff/show"
)

// P10.4

// What is read is written so that it is read again, whatever blanks stood there.
func TestReadAndWritten(t *testing.T) {
	for s, want := range map[string]string{
		"policy p first{}":                      "policy p first { }",
		"\n\npolicy\np\nfirst\n{\n}\n":          "policy p first { }",
		"set s only{policy p first{permit r;}}": "set s only { policy p first { permit r; } }",
		`policy p first when(case.a=1,case . b ! <@2 or env.c>"")and(env.c=#d){permit r if(has case.a(not 1))on deny log x;}on permit log y`: `policy p first when (case.a = 1, case.b! < @2 or env.c > "") and (env.c = #d) { permit r if (has case.a (not 1)) on deny log x; } on permit log y`,
	} {
		p, err, _ := parse.Policy(s)
		if err != api.OK {
			t.Fatalf("%q: error %d", s, err)
		}
		writes(t, want, p)
	}
}

// full is a set with something of all that there may be.
func full() api.Policy {
	target := func(name string, v api.Value) api.Target {
		m := func(cat int, must bool, op int) api.Match {
			return api.Match{Attr: api.Attr{Cat: cat, Name: name, Must: must}, Op: op, Value: v}
		}
		return api.Target{{{m(1, true, 1), m(2, false, 2)}, {m(3, true, 3)}}, {{m(4, false, 1)}, {m(1, false, 2), m(2, true, 3), m(3, false, 1)}}}
	}
	obls := func(name string) []api.Obl {
		return []api.Obl{{On: 1, Kind: api.OLog, Arg: name}, {On: 2, Kind: api.ORedact, Arg: name}, {On: 1, Kind: api.OReview, Arg: name}}
	}
	x, y := of(must(api.CCase, "x")), of(attr(api.CEnv, "y"))
	cond := slices.Concat(
		[]api.Node{x, call(api.NOne), lit(whole(3)), call(api.NSub), x, call(api.NSize), call(api.NLess)},
		[]api.Node{y, lit(tick(4)), call(api.NHas), call(api.NAnd), lit(boolean(0)), call(api.NNot), call(api.NOr)},
	)
	p := plain("p", api.Rule{Id: "b", Target: target("m", text("n")), Cond: cond, Obls: obls("o")}, api.Rule{Id: "c", Deny: true}, api.Rule{Id: "d", Cond: []api.Node{lit(id("e"))}})
	p.Target, p.Obls = target("q", id("r")), obls("s")
	kid := set("t", plain("u", api.Rule{Id: "v", Obls: obls("w")}), p, set("z"))
	kid.Target, kid.Obls = target("f", whole(-5)), obls("g")
	s := set("h", plain("i"), kid, plain("j", api.Rule{Id: "k", Target: target("l", boolean(1))}))
	s.Target, s.Obls = target("ab", tick(6)), obls("ac")
	return s
}

// change goes through a thing to one of its places, a number, a truth, a text or a list, and changes it in one of the ways there are.
type change struct {
	place, way int
	fields     string // on the way there
	places     int    // gone by so far
	done       bool
}

func (c *change) walk(v reflect.Value, fields string) {
	switch v.Kind() {
	case reflect.Struct:
		for i := range v.NumField() {
			c.walk(v.Field(i), fields+"."+v.Type().Field(i).Name)
		}
		return
	case reflect.Slice:
		for i := range v.Len() {
			c.walk(v.Index(i), fields)
		}
	}
	if c.places == c.place {
		c.fields = fields
		c.done = c.put(v)
	}
	c.places++
}

// put answers false, if there are not so many ways.
func (c *change) put(v reflect.Value) bool {
	numbers := []int{0, 1, 2, 3, 4, 5, 6, 7, 8, 9, 10, 11, 12, 13, 14, -1, 100, maxTick, math.MinInt, math.MaxInt}
	texts := []string{"", "zz", "yy", "zzz", "a1", "a_", "true", "if", "A", "\x00", `\`, `"`, " ", "  "}
	switch v.Kind() {
	case reflect.Bool:
		v.SetBool(!v.Bool())
		return c.way == 0
	case reflect.Int:
		if c.way < len(numbers) {
			v.SetInt(int64(numbers[c.way]))
		}
		return c.way < len(numbers)
	case reflect.String:
		if c.way < len(texts) {
			v.SetString(texts[c.way])
		}
		return c.way < len(texts)
	}
	return c.list(v)
}

// list takes one out, exchanges two, or puts one in once more.
func (c *change) list(v reflect.Value) bool {
	i, n := c.way/3, v.Len()
	if i >= n {
		return false
	}
	switch c.way % 3 {
	case 0:
		v.Set(reflect.AppendSlice(v.Slice3(0, i, i), v.Slice(i+1, n)))
	case 1:
		reflect.Swapper(v.Interface())(i, (i+1)%n)
	case 2:
		v.Set(reflect.AppendSlice(v.Slice3(0, i+1, i+1), v.Slice(i, n)))
	}
	return true
}

// changes are policies that differ from the full one in one thing, and the fields on the way to that.
func changes(yield func(p api.Policy, fields string) bool) {
	for place := 0; ; place++ {
		for way := 0; ; way++ {
			p, c := full(), change{place: place, way: way}
			c.walk(reflect.ValueOf(&p).Elem(), "")
			if place >= c.places {
				return
			}
			if !c.done {
				break
			}
			if !yield(p, c.fields) {
				return
			}
		}
	}
}

// Each field there is: what is right yet has a text that no other policy has.
func TestPoliciesThatDifferInOneThing(t *testing.T) {
	met := map[string]api.Policy{}
	counts := map[string]int{}
	for p, fields := range changes {
		s := show.Policy(p)
		if right := policy.Right(p) == api.OK; right != (s != "") {
			t.Fatalf("%s: right %v: %q", fields, right, s)
		}
		if s == "" {
			continue
		}
		if q, found := met[s]; found && !same(p, q) {
			t.Fatalf("%s: %+v and %+v are written %q", fields, p, q, s)
		}
		met[s] = p
		if !same(p, full()) {
			counts[fields]++
			if s == show.Policy(full()) {
				t.Fatalf("%s: the change isn't written", fields)
			}
		}
	}
	match, node := []string{".Attr.Cat", ".Attr.Name", ".Attr.Must", ".Op", ".Value.Kind"}, []string{".Op", ".Value.Kind", ".Value.N", ".Value.S", ".Attr.Cat", ".Attr.Name", ".Attr.Must"}
	obl := []string{".On", ".Kind", ".Arg"}
	const kid, rule = ".Kids.Kids", ".Kids.Kids.Rules"
	changed(t, counts, "", ".Id", ".Alg", ".Target", ".Kids", ".Obls")
	changed(t, counts, kid, ".Id", ".Set", ".Alg", ".Target", ".Rules", ".Obls")
	changed(t, counts, rule, ".Id", ".Deny", ".Target", ".Cond", ".Obls")
	changed(t, counts, ".Target", append(match, ".Value.N")...)
	changed(t, counts, kid+".Target", append(match, ".Value.S")...)
	changed(t, counts, rule+".Target", append(match, ".Value.S")...)
	changed(t, counts, rule+".Cond", node...)
	changed(t, counts, ".Obls", obl...)
	changed(t, counts, kid+".Obls", obl...)
	changed(t, counts, rule+".Obls", obl...)
}

func changed(t *testing.T, counts map[string]int, ahead string, fields ...string) {
	t.Helper()
	for _, field := range fields {
		if counts[ahead+field] == 0 {
			t.Errorf("%s%s was not changed to something right", ahead, field)
		}
	}
}

func same(p, q api.Policy) bool { return reflect.DeepEqual(withNil(p), withNil(q)) }

// Small policies, many of which have parts of each other.
func TestPoliciesOfTheSameParts(t *testing.T) {
	met := map[string]api.Policy{}
	for i := range 6000 {
		m := maker{x: uint64(i / 8), ids: 20}
		p, _ := m.policy(maxDeep)
		p.Rules = p.Rules[:min(len(p.Rules), 1)]
		if i&1 > 0 {
			p.Target = nil
		}
		if i&2 > 0 {
			p.Obls = nil
		}
		for k := range p.Rules {
			if r := &p.Rules[k]; i&4 > 0 {
				r.Obls, p.Obls = p.Obls, r.Obls
				r.Target, p.Target = p.Target, r.Target
			}
		}
		s := show.Policy(p)
		if q, found := met[s]; s == "" || found && !same(p, q) {
			t.Fatalf("%+v and %+v are written %q", p, q, s)
		}
		met[s] = p
	}
	if len(met) < 2000 {
		t.Errorf("only %d policies", len(met))
	}
}

func TestExpressionsAreWrittenApart(t *testing.T) {
	met := map[string][]api.Node{}
	for i := range 20000 {
		m := maker{x: uint64(i)}
		l, _ := m.expr(1 + i%9)
		s := show.Expr(l)
		if other, found := met[s]; s == "" || found && !slices.Equal(l, other) {
			t.Fatalf("%+v and %+v are written %q", l, other, s)
		}
		met[s] = l
	}
	if len(met) < 2000 {
		t.Errorf("only %d expressions", len(met))
	}
}
