package show_test

import (
	"slices"
	"strconv"
	"strings"
	"testing"

	"bailiff/api"
	"bailiff/parse"
	"bailiff/policy"
	"bailiff/show"
)

// times repeats with something between.
func times(n int, s, between string) string {
	return strings.TrimSuffix(strings.Repeat(s+between, n), between)
}

// cube is a target of so many AnyOfs, AllOfs and matches of each.
func cube(x, y, z int) api.Target {
	return slices.Repeat(api.Target{slices.Repeat([][]api.Match{slices.Repeat([]api.Match{small()}, z)}, y)}, x)
}

func log(n int) []api.Obl { return slices.Repeat([]api.Obl{{On: 1, Kind: api.OLog, Arg: "x"}}, n) }

// rules are so many, with names that go on from the given number, and what they are written as.
func rules(from, n int) ([]api.Rule, string) {
	return some(n, " ", func() (api.Rule, string) {
		name := "r" + strconv.Itoa(from)
		from++
		if from%2 == 0 {
			return api.Rule{Id: name, Deny: true}, "deny " + name + ";"
		}
		return api.Rule{Id: name}, "permit " + name + ";"
	})
}

// tree is a set of so many policies at each depth, n of them so far.
func tree(wide, deep int, n *int) (api.Policy, string) {
	*n++
	name := "k" + strconv.Itoa(*n)
	if deep == 1 {
		return plain(name), "policy " + name + " first { }"
	}
	kids, s := some(wide, " ", func() (api.Policy, string) { return tree(wide, deep-1, n) })
	return set(name, kids...), "set " + name + " first {" + within(" ", s, "") + " }"
}

func TestCountsInTargets(t *testing.T) {
	const match = "case.a = 1"
	for _, x := range []int{1, 2, maxMatch} {
		for _, y := range []int{1, 2, maxMatch} {
			for _, z := range []int{1, 2, maxMatch} {
				targets(t, times(x, "("+times(y, times(z, match, ", "), " or ")+")", " and "), cube(x, y, z))
			}
		}
	}
}

func TestCountsOfDuties(t *testing.T) {
	for n := 1; n <= maxObls; n++ {
		on := times(n, "on permit log x", " ")
		p := plain("p", api.Rule{Id: "r", Obls: log(n)}, api.Rule{Id: "q", Obls: log(n)})
		p.Obls = log(n)
		s := set("s", p)
		s.Obls = log(n)
		writes(t, "set s first { policy p first { permit r "+on+"; permit q "+on+"; } "+on+" } "+on, s)
	}
}

func TestCountsOfRulesAndKids(t *testing.T) {
	for n := 1; n <= maxKids; n++ {
		l, s := rules(0, n)
		writes(t, "policy p first { "+s+" }", plain("p", l...))
		k := 0
		p, s := tree(n, 2, &k)
		writes(t, s, p)
	}
	// MaxAll rules, of as few policies as may be, and of others.
	for _, counts := range [][]int{{16, 16, 16, 16}, {16, 16, 15, 15, 2}, {1, 16, 15, 16, 16}, slices.Repeat([]int{4}, 16)} {
		var kids []api.Policy
		var texts []string
		from := 0
		for i, n := range counts {
			l, s := rules(from, n)
			from += n
			name := "p" + strconv.Itoa(i)
			kids, texts = append(kids, plain(name, l...)), append(texts, "policy "+name+" first { "+s+" }")
		}
		writes(t, "set s first { "+strings.Join(texts, " ")+" }", set("s", kids...))
		if from != maxAll {
			t.Fatal(from)
		}
	}
}

func TestDeepestPolicies(t *testing.T) {
	for _, wide := range []int{1, 2, 3, maxKids} {
		for deep := 1; deep <= maxDeep; deep++ {
			n := 0
			p, s := tree(wide, deep, &n)
			writes(t, s, p)
		}
	}
}

// All there may be of one rule: it is no policy any more that may be read, but it is written.
func TestFullRule(t *testing.T) {
	v := text(strings.Repeat("\xff", maxText))
	m := api.Match{Attr: must(api.CSubject, "abcdefghijklmnop"), Op: api.MMore, Value: v}
	target := slices.Repeat(api.Target{slices.Repeat([][]api.Match{slices.Repeat([]api.Match{m}, maxMatch)}, maxMatch)}, maxMatch)
	match := `subject.abcdefghijklmnop! > "` + strings.Repeat(`\ff`, maxText) + `"`
	when := times(maxMatch, "("+times(maxMatch, times(maxMatch, match, ", "), " or ")+")", " and ")
	r := api.Rule{Id: "abcdefghijklmnop", Target: target, Cond: append(repeat(16, lit(v)), repeat(15, call(api.NLess))...), Obls: log(maxObls)}
	cond := strings.Repeat(`(less "`+strings.Repeat(`\ff`, maxText)+`" `, 15) + `"` + strings.Repeat(`\ff`, maxText) + `"` + strings.Repeat(")", 15)
	writes(t, "policy p first { permit abcdefghijklmnop when "+when+" if "+cond+" "+times(maxObls, "on permit log x", " ")+"; }", plain("p", r))
}

// Each length about MaxPolicy: the texts of a policy's matches grow, a byte at a time.
func TestLengths(t *testing.T) {
	texts := make([]string, maxMatch*maxMatch)
	build := func() (api.Policy, string) {
		i := -1
		target, s := some(maxMatch, " and ", func() ([][]api.Match, string) {
			l, s := some(maxMatch, " or ", func() ([]api.Match, string) {
				i++
				return []api.Match{{Attr: attr(api.CCase, "a"), Op: api.MEq, Value: text(texts[i])}}, `case.a = "` + texts[i] + `"`
			})
			return l, "(" + s + ")"
		})
		p := plain("p")
		p.Target = target
		return p, "policy p first when " + s + " { }"
	}
	met := map[int]bool{}
	for i := 0; !met[maxPolicy+20]; i++ {
		p, s := build()
		met[len(s)] = true
		if len(s) > maxPolicy-20 {
			writes(t, s, p)
		}
		texts[i%len(texts)] += "x"
	}
	for n := maxPolicy - 10; n <= maxPolicy+10; n++ {
		if !met[n] {
			t.Errorf("no text of %d bytes", n)
		}
	}
}

// What isn't right

// fault is one thing that is wrong with a policy.
type fault struct {
	what string
	put  func(p *api.Policy)
}

func policyFaults() []fault {
	l := []fault{
		{"rules of a set", func(p *api.Policy) { p.Set, p.Kids, p.Rules = true, nil, []api.Rule{{Id: "u"}} }},
		{"kids of a policy", func(p *api.Policy) { p.Set, p.Kids, p.Rules = false, []api.Policy{plain("u")}, nil }},
		{"rules and kids of a set", func(p *api.Policy) { p.Set, p.Kids, p.Rules = true, []api.Policy{plain("u")}, []api.Rule{{Id: "w"}} }},
		{"onlyone of a policy", func(p *api.Policy) { p.Set, p.Kids, p.Alg = false, nil, api.OnlyOne }},
		{"too many rules", func(p *api.Policy) { p.Set, p.Kids = false, nil; p.Rules, _ = rules(500, maxKids+1) }},
		{"too many kids", func(p *api.Policy) { n := 500; *p, _ = tree(maxKids+1, 2, &n) }},
		{"too deep", func(p *api.Policy) { n := 500; *p, _ = tree(1, maxDeep+1, &n) }},
		{"a set too deep", func(p *api.Policy) { *p = set("a", set("b", set("c", set("d", set("e"))))) }},
		{"itself within itself", func(p *api.Policy) { *p = set("u", plain("w")); p.Kids[0] = *p }},
		{"a name twice", func(p *api.Policy) { *p = set("u", set("w"), plain("w")) }},
		{"a name that a rule has", func(p *api.Policy) { *p = plain("u", api.Rule{Id: "u"}) }},
		{"a name of two rules", func(p *api.Policy) { *p = set("u", plain("w", api.Rule{Id: "x"}), plain("y", api.Rule{Id: "x"})) }},
		{"too many rules in all", func(p *api.Policy) {
			*p = set("u")
			for i := range 5 {
				l, _ := rules(100*i+1000, 13)
				p.Kids = append(p.Kids, plain("w"+strconv.Itoa(i), l...))
			}
		}},
	}
	for _, alg := range others(len(algorithms)) {
		l = append(l, fault{"algorithm " + strconv.Itoa(alg), func(p *api.Policy) { p.Alg = alg }})
	}
	for _, name := range badNames() {
		l = append(l, fault{"a policy's name " + strconv.Quote(name[:min(len(name), 20)]), func(p *api.Policy) { p.Id = name }})
		l = append(l, ruleFault("a rule's name", func(r *api.Rule) { r.Id = name }))
	}
	for _, target := range badTargets() {
		l = append(l, fault{"a policy's target", func(p *api.Policy) { p.Target = target }})
		l = append(l, ruleFault("a rule's target", func(r *api.Rule) { r.Target = target }))
	}
	for _, obls := range badDuties() {
		l = append(l, fault{"a policy's duties", func(p *api.Policy) { p.Obls = obls }})
		l = append(l, ruleFault("a rule's duties", func(r *api.Rule) { r.Obls = obls }))
	}
	for _, cond := range badConds() {
		l = append(l, ruleFault("a condition", func(r *api.Rule) { r.Cond = cond }))
	}
	return l
}

// ruleFault puts a fault into a policy of rules.
func ruleFault(what string, put func(r *api.Rule)) fault {
	return fault{what, func(p *api.Policy) {
		l, _ := rules(700, 3)
		put(&l[1])
		*p = plain("u", l...)
	}}
}

func badTargets() []api.Target {
	l := []api.Target{cube(maxMatch+1, 1, 1), cube(1, maxMatch+1, 1), cube(1, 1, maxMatch+1), {nil}, {{}}, {{nil}}, {{{}}}, {{{small()}}, {}}, {{{small()}, {}}}, {{{}, {small()}}}}
	put := func(m api.Match) {
		l = append(l, api.Target{{{m}}}, api.Target{{{small()}}, {{small()}, {small(), m}}})
	}
	for _, v := range badValues() {
		put(api.Match{Attr: attr(api.CCase, "a"), Op: api.MEq, Value: v})
	}
	for _, op := range others(len(comparisons)) {
		put(api.Match{Attr: attr(api.CCase, "a"), Op: op, Value: whole(1)})
	}
	for _, cat := range others(len(categories)) {
		put(api.Match{Attr: attr(cat, "a"), Op: api.MEq, Value: whole(1)})
	}
	for _, name := range badNames() {
		put(api.Match{Attr: must(api.CEnv, name), Op: api.MEq, Value: whole(1)})
	}
	return l
}

func badDuties() [][]api.Obl {
	l := [][]api.Obl{log(maxObls + 1), log(1 << 16)}
	put := func(o api.Obl) { l = append(l, []api.Obl{o}, append(log(3), o)) }
	for _, on := range others(len(effects)) {
		put(api.Obl{On: on, Kind: api.OLog, Arg: "x"})
	}
	for _, kind := range others(len(doings)) {
		put(api.Obl{On: 1, Kind: kind, Arg: "x"})
	}
	for _, name := range badNames() {
		put(api.Obl{On: 1, Kind: api.OLog, Arg: name})
	}
	return l
}

func badConds() [][]api.Node {
	a, one := of(attr(api.CCase, "a")), lit(whole(1))
	l := [][]api.Node{
		{a}, {one, one}, {call(api.NNot)}, {one, call(api.NOne)}, {a, one, call(api.NEq)}, {call(0)}, {one, call(api.NOr + 1)},
		append([]api.Node{one}, repeat(maxExpr, call(api.NNot))...), append([]api.Node{one}, repeat(maxExpr/2, one, call(api.NAdd))...),
	}
	for _, v := range badValues() {
		l = append(l, []api.Node{lit(v)}, []api.Node{one, lit(v), call(api.NEq)})
	}
	for _, name := range badNames() {
		l = append(l, []api.Node{of(attr(api.CCase, name)), call(api.NSize)})
	}
	return l
}

func noPolicy(t *testing.T, what string, p api.Policy) {
	t.Helper()
	if policy.Right(p) == api.OK {
		t.Fatalf("%s: it is right: %+v", what, p)
	}
	if got := show.Policy(p); got != "" {
		t.Errorf("%s: %q, not the empty text", what, got)
	}
}

func TestPoliciesThatArentRight(t *testing.T) {
	noPolicy(t, "nothing", api.Policy{})
	for _, f := range policyFaults() {
		root := plain("p")
		f.put(&root)
		noPolicy(t, f.what, root)
		for place := range 3 {
			kids := []api.Policy{plain("a"), plain("b", api.Rule{Id: "r", Obls: log(1)}), set("c")}
			f.put(&kids[place])
			noPolicy(t, f.what+" of a kid", set("s", kids...))
			noPolicy(t, f.what+" of a kid's kid", set("t", plain("e"), set("s", kids...), plain("f")))
		}
	}
}

// What stands too deep, or is one too many in all, is right by itself.
func TestWhatIsRightByItself(t *testing.T) {
	n := 0
	p, s := tree(2, maxDeep, &n)
	writes(t, s, p)
	noPolicy(t, "too deep", set("s", p))
	noPolicy(t, "a name twice", set(p.Id, plain(p.Id)))
	l, _ := rules(0, maxKids)
	kids := []api.Policy{plain("a", l...)}
	for i := range 3 {
		l, _ := rules(100*(i+1), maxKids)
		kids = append(kids, plain("b"+strconv.Itoa(i), l...))
	}
	if show.Policy(set("s", kids...)) == "" {
		t.Error("MaxAll rules aren't written")
	}
	noPolicy(t, "one more than MaxAll", set("s", append(kids, plain("c", api.Rule{Id: "x"}))...))
}

// A text of more than MaxPolicy bytes is written all the same, however long it is.
func TestLongTexts(t *testing.T) {
	n := 0
	p, s := tree(maxKids, maxDeep, &n)
	if got := show.Policy(p); got != s || len(s) < 20*maxPolicy {
		t.Errorf("%d bytes, not %d", len(got), len(s))
	}
	if _, err, at := parse.Policy(s); err != api.ErrLimit || at != maxPolicy {
		t.Errorf("error %d at %d", err, at)
	}
}
