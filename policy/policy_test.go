package policy_test

import (
	"cmp"
	"math"
	"reflect"
	"slices"
	"strconv"
	"strings"
	"testing"

	"bailiff/api"
	"bailiff/policy"
)

// The limits as the document's page has them.
const (
	maxName  = 16
	maxText  = 64
	maxTick  = 1 << 40
	maxExpr  = 32
	maxMatch = 8
	maxObls  = 8
	maxKids  = 16
	maxDeep  = 4
	maxAll   = 64
)

// outside are the numbers just beyond lo and hi, and far ones that would lie between if they were cut short or turned round.
func outside(lo, hi int) []int {
	l := []int{lo - 1, hi + 1, -lo, -hi, hi + 2, math.MaxInt, math.MinInt, math.MinInt + lo}
	for _, k := range []int{8, 16, 32} {
		l = append(l, lo+1<<k, hi+1<<k, lo-1<<k)
	}
	return l
}

func goodNames() []string {
	return []string{"a", "x", "z", "ann", "a_9", "z__", "x0", "true", "permit", "policy", "abcdefghijklmnop", "z" + strings.Repeat("9", maxName-1)}
}

func badNames() []string {
	return []string{"", "A", "Ann", "aB", "9a", "9", "_", "_a", "a-b", "a b", " a", "a ", "a.b", "#a", "a!", "a\x00", "ä", "aä", "abcdefghijklmnopq", strings.Repeat("a", 1<<16)}
}

func boolean(n int) api.Value { return api.Value{Kind: api.KBool, N: n} }
func whole(n int) api.Value   { return api.Value{Kind: api.KInt, N: n} }
func text(s string) api.Value { return api.Value{Kind: api.KText, S: s} }
func tick(n int) api.Value    { return api.Value{Kind: api.KTick, N: n} }
func id(s string) api.Value   { return api.Value{Kind: api.KId, S: s} }

func goodValues() []api.Value {
	return []api.Value{
		boolean(0), boolean(1), whole(0), whole(1), whole(-7), whole(math.MinInt), whole(math.MaxInt),
		text(""), text("a"), text("\x00"), text(strings.Repeat("\xff", maxText)), tick(0), tick(5), tick(maxTick), id("a"), id("abcdefghijklmnop"),
	}
}

// badValues are wrong each for a reason of its own.
func badValues() []api.Value {
	return []api.Value{
		{}, {N: 1}, {S: "a"}, {Kind: 6}, {Kind: -1}, boolean(2), boolean(-1), {Kind: api.KBool, S: "x"}, {Kind: api.KInt, S: "x"},
		{Kind: api.KText, N: 1}, text(strings.Repeat("a", maxText+1)), tick(-1), tick(maxTick + 1), {Kind: api.KTick, S: "x"},
		id(""), id("Ann"), id("abcdefghijklmnopq"), {Kind: api.KId, S: "a", N: 1},
	}
}

func attr(cat int, name string) api.Attr { return api.Attr{Cat: cat, Name: name} }
func must(cat int, name string) api.Attr { return api.Attr{Cat: cat, Name: name, Must: true} }

func goodAttrs() []api.Attr {
	var l []api.Attr
	for _, cat := range []int{api.CSubject, api.CAction, api.CCase, api.CEnv} {
		for _, n := range goodNames() {
			l = append(l, attr(cat, n), must(cat, n))
		}
	}
	return l
}

func badAttrs() []api.Attr {
	var l []api.Attr
	for _, cat := range outside(api.CSubject, api.CEnv) {
		l = append(l, attr(cat, "a"), must(cat, "a"), attr(cat, ""))
	}
	for _, n := range badNames() {
		l = append(l, attr(api.CSubject, n), must(api.CEnv, n))
	}
	return append(l, api.Attr{}, api.Attr{Must: true})
}

// fault is one thing that is wrong with a T, and the error of it.
type fault[T any] struct {
	what string
	want api.Errno
	put  func(*T)
}

// firstIsTold puts faults that stand in the order in which one comes upon them into what is right: each by itself, each two of them, and mixed ones.
// Of several the last is put first: it may lie in what one ahead of it takes away.
func firstIsTold[T any](t *testing.T, fresh func() T, check func(T) api.Errno, l []fault[T]) {
	t.Helper()
	if got := check(fresh()); got != api.OK {
		t.Fatalf("nothing is wrong: error %d", got)
	}
	asks := func(places ...int) {
		t.Helper()
		x := fresh()
		for _, i := range slices.Backward(places) {
			l[i].put(&x)
		}
		if got := check(x); got != l[places[0]].want {
			t.Fatalf("%s ahead of %s: error %d, not %d", l[places[0]].what, l[places[len(places)-1]].what, got, l[places[0]].want)
		}
	}
	for i := range l {
		asks(i)
		for k := i + 1; k < len(l); k++ {
			asks(i, k)
		}
	}
	x := uint64(5)
	for range 2000 {
		var some []int
		for i := range l {
			if next(&x, 8) == 0 {
				some = append(some, i)
			}
		}
		if len(some) > 0 {
			asks(some...)
		}
	}
}

// next is a row of numbers that is the same each time.
func next(x *uint64, below int) int {
	*x = *x*6364136223846793005 + 1442695040888963407
	return int(*x >> 33 % uint64(below))
}

func is(t *testing.T, what string, got, want api.Errno) {
	t.Helper()
	if got != want {
		t.Errorf("%s: error %d, not %d", what, got, want)
	}
}

// limited is what a list of so many has to say, if no more than most may be.
func limited(n, most int) api.Errno {
	if n > most {
		return api.ErrLimit
	}
	return api.OK
}

// P8.1

func TestAttributes(t *testing.T) {
	for _, a := range goodAttrs() {
		if !policy.Attr(a) {
			t.Errorf("%+v isn't right", a)
		}
	}
	for _, a := range badAttrs() {
		if policy.Attr(a) {
			t.Errorf("%+v is right", a)
		}
	}
}

func TestCategoriesOfAttributes(t *testing.T) {
	for cat := -300; cat <= 300; cat++ {
		for _, a := range []api.Attr{attr(cat, "a"), must(cat, "ann")} {
			if got := policy.Attr(a); got != (1 <= cat && cat <= 4) {
				t.Errorf("%+v: %v", a, got)
			}
		}
	}
}

func TestLengthsOfAttributesNames(t *testing.T) {
	for n := range 300 {
		for cat := 1; cat <= 4; cat++ {
			a := attr(cat, strings.Repeat("a", n))
			if got := policy.Attr(a); got != (1 <= n && n <= maxName) {
				t.Errorf("%d letters: %v", n, got)
			}
		}
	}
}

// P8.5

func rule(id string) api.Rule { return api.Rule{Id: id} }

// rules are so many, with names that go on from the given number.
func rules(from, n int) []api.Rule {
	l := []api.Rule{}
	for i := range n {
		l = append(l, rule("r"+strconv.Itoa(from+i)))
	}
	return l
}

func plain(id string, l ...api.Rule) api.Policy {
	return api.Policy{Id: id, Alg: api.DenyOverrides, Rules: l}
}

func set(id string, l ...api.Policy) api.Policy {
	return api.Policy{Id: id, Set: true, Alg: api.DenyOverrides, Kids: l}
}

// kids are so many without rules.
func kids(n int) []api.Policy {
	l := []api.Policy{}
	for i := range n {
		l = append(l, plain("k"+strconv.Itoa(i)))
	}
	return l
}

// full is a rule with something of all that a rule may have, and full of policies, too.
func full(id string) api.Rule {
	return api.Rule{Id: id, Deny: true, Target: cube(2, 2, 2), Cond: row(api.NAttr, api.NLit, api.NHas, api.NNot), Obls: duties(2)}
}

func rich(p api.Policy) api.Policy {
	p.Target, p.Obls = cube(2, 2, 2), duties(3)
	return p
}

func right(t *testing.T, what string, p api.Policy, count int) {
	t.Helper()
	is(t, what, policy.Right(p), api.OK)
	if n := policy.Rules(p); n != count {
		t.Errorf("%s: %d rules, not %d", what, n, count)
	}
}

func wrong(t *testing.T, what string, p api.Policy, want api.Errno) {
	t.Helper()
	is(t, what, policy.Right(p), want)
	if n := policy.Rules(p); n != 0 {
		t.Errorf("%s: %d rules", what, n)
	}
}

func TestPolicyRuns(t *testing.T) {
	p := plain("p")
	right(t, "the first run", p, 0)
	wrong(t, "the second run", set("s", p, p), api.ErrArg)
}

func TestPoliciesAndSets(t *testing.T) {
	right(t, "a policy", plain("p"), 0)
	right(t, "a set", set("s"), 0)
	right(t, "one rule", plain("p", rule("r")), 1)
	right(t, "two rules", plain("p", full("a"), full("b")), 2)
	right(t, "all of it", rich(plain("p", full("a"), rule("b"), full("c"))), 3)
	right(t, "a set of a policy", set("s", plain("p")), 0)
	right(t, "a set of a set", set("s", set("p")), 0)
	inner := set("e", plain("f", rules(0, 5)...), plain("g"))
	middle := rich(set("c", plain("d"), inner, plain("h", rules(5, 2)...)))
	right(t, "several depths", rich(set("s", plain("a", rule("b")), middle, plain("i", rule("j")))), 9)
	for _, n := range goodNames() {
		right(t, n, plain(n), 0)
		right(t, n, set(n), 0)
		right(t, n, plain("q", rule(n)), 1)
		right(t, n, set("q", plain("r", rule(n))), 1)
	}
	wrong(t, "nothing", api.Policy{}, api.ErrArg)
}

func TestNilAndEmptyListsAreTheSame(t *testing.T) {
	p := api.Policy{Id: "p", Alg: 1, Target: api.Target{}, Rules: []api.Rule{}, Kids: []api.Policy{}, Obls: []api.Obl{}}
	right(t, "a policy with empty lists", p, 0)
	p.Set = true
	right(t, "a set with empty lists", p, 0)
	right(t, "a policy with nil", api.Policy{Id: "p", Alg: 1}, 0)
	right(t, "a set with nil", api.Policy{Id: "p", Set: true, Alg: 1}, 0)
	right(t, "a rule with empty lists", plain("p", api.Rule{Id: "r", Target: api.Target{}, Cond: []api.Node{}, Obls: []api.Obl{}}), 1)
	p.Kids, p.Rules = make([]api.Policy, 9)[:0], make([]api.Rule, 9)[:0]
	right(t, "a set with room behind its lists", p, 0)
	p.Set = false
	right(t, "a policy with room behind its lists", p, 0)
}

func TestAlgorithmsOfPoliciesAndSets(t *testing.T) {
	for alg := -300; alg <= 300; alg++ {
		p, s := plain("p", rule("r")), set("s", plain("p", rule("r")))
		p.Alg, s.Alg = alg, alg
		want := api.ErrArg
		if 1 <= alg && alg <= 6 {
			want = api.OK
		}
		is(t, "a set by "+strconv.Itoa(alg), policy.Right(s), want)
		if alg == 4 {
			want = api.ErrArg
		}
		is(t, "a policy by "+strconv.Itoa(alg), policy.Right(p), want)
		is(t, "a policy in a set by "+strconv.Itoa(alg), policy.Right(set("t", plain("u"), p)), want)
	}
	for _, alg := range outside(api.DenyOverrides, api.PermitUnless) {
		p, s := plain("p"), set("s")
		p.Alg, s.Alg = alg, alg
		wrong(t, "a policy", p, api.ErrArg)
		wrong(t, "a set", s, api.ErrArg)
		wrong(t, "a policy in a set", set("t", p), api.ErrArg)
	}
}

func TestNamesOfPoliciesAndRules(t *testing.T) {
	for _, n := range badNames() {
		wrong(t, "a policy", plain(n), api.ErrArg)
		wrong(t, "a set", set(n), api.ErrArg)
		wrong(t, "a kid", set("s", plain("p"), plain(n), plain("q")), api.ErrArg)
		for place := range 3 {
			l := rules(0, 3)
			l[place].Id = n
			wrong(t, "a rule", plain("p", l...), api.ErrArg)
		}
	}
}

func TestCountsOfRulesAndKids(t *testing.T) {
	for _, n := range []int{0, 1, 2, 15, maxKids, maxKids + 1, maxKids + 2, 32, 64, 65, 255, 256, 257, 272, 1 << 16} {
		for what, p := range map[string]api.Policy{"rules": plain("p", rules(0, n)...), "kids": set("s", kids(n)...), "rules deeper": set("s", plain("p"), plain("q", rules(0, n)...)), "kids deeper": set("s", plain("p"), set("q", kids(n)...))} {
			is(t, strconv.Itoa(n)+" "+what, policy.Right(p), limited(n, maxKids))
		}
		if n > 0 {
			want := cmp.Or(limited(n, maxKids), api.ErrArg)
			wrong(t, strconv.Itoa(n)+" rules that are nothing", plain("p", make([]api.Rule, n)...), want)
			wrong(t, strconv.Itoa(n)+" kids that are nothing", set("s", make([]api.Policy, n)...), want)
		}
	}
}

// nest lays a policy into so many sets.
func nest(p api.Policy, n int) api.Policy {
	for i := range n {
		p = set("s"+strconv.Itoa(i), p)
	}
	return p
}

func TestDepths(t *testing.T) {
	for n := range 40 {
		want := limited(n+1, maxDeep)
		is(t, "a policy in "+strconv.Itoa(n)+" sets", policy.Right(nest(plain("p", rule("r")), n)), want)
		is(t, "a set in "+strconv.Itoa(n)+" sets", policy.Right(nest(set("p"), n)), want)
		beside := nest(plain("p"), n)
		if n > 0 {
			beside.Kids = append([]api.Policy{plain("q", rule("r")), set("u", plain("v"))}, beside.Kids...)
		}
		is(t, "beside others, in "+strconv.Itoa(n)+" sets", policy.Right(beside), want)
	}
	wrong(t, "very deep", nest(plain("p"), 1<<16), api.ErrLimit)
	wrong(t, "nothing, too deep", nest(api.Policy{}, maxDeep), api.ErrLimit)
	wrong(t, "nothing, just not too deep", nest(api.Policy{}, maxDeep-1), api.ErrArg)
}

func TestTheWidestAndDeepest(t *testing.T) {
	count := 0
	var grow func(depth int) api.Policy
	grow = func(depth int) api.Policy {
		count++
		p := set("n" + strconv.Itoa(count))
		for range maxKids {
			if depth < maxDeep {
				p.Kids = append(p.Kids, grow(depth+1))
			}
		}
		return p
	}
	p := grow(1)
	if count != 1+16+256+4096 {
		t.Fatal(count)
	}
	right(t, "all sets that there may be", p, 0)
	last := &p.Kids[15].Kids[15].Kids[15]
	for i, ahead := range names(&p)[:count-1] {
		if i%29 > 0 && i < count-9 {
			continue
		}
		last.Id = *ahead
		is(t, "the last is named as one ahead", policy.Right(p), api.ErrArg)
	}
	last.Id = "x"
	last.Kids = []api.Policy{plain("y")}
	wrong(t, "the last has a kid", p, api.ErrLimit)
	last.Kids, last.Set, last.Rules = nil, false, []api.Rule{rule("y")}
	right(t, "the last has a rule", p, 1)
}

// spread lays rules into policies of so many each, some of them a depth further down.
func spread(counts ...int) api.Policy {
	out, from := set("s"), 0
	for i, n := range counts {
		p := plain("p"+strconv.Itoa(i), rules(from, n)...)
		if i%3 == 1 {
			p = set("q"+strconv.Itoa(i), p)
		}
		out.Kids, from = append(out.Kids, p), from+n
	}
	return out
}

func TestRulesInAll(t *testing.T) {
	for _, counts := range [][]int{{}, {0}, {1}, {16}, {0, 0, 3}, {1, 2, 3, 4, 5}, {16, 16, 16, 16}, {16, 16, 16, 15, 1}, {16, 16, 0, 16, 0, 16, 0}, {4, 4, 4, 4, 4, 4, 4, 4, 4, 4, 4, 4, 4, 4, 4, 4}, {1, 16, 16, 16, 15}, {7, 9, 16, 1, 15, 2, 14}} {
		in := 0
		for _, n := range counts {
			in += n
		}
		right(t, "no more than may be", spread(counts...), in)
		for i, n := range counts {
			more := slices.Clone(counts)
			more[i]++
			want := cmp.Or(limited(n+1, maxKids), limited(in+1, maxAll))
			is(t, "one rule more", policy.Right(spread(more...)), want)
		}
	}
	for _, counts := range [][]int{{16, 16, 16, 16, 1}, {1, 16, 16, 16, 16}, {16, 16, 16, 16, 16}, {13, 13, 13, 13, 13}, {5, 5, 5, 5, 5, 5, 5, 5, 5, 5, 5, 5, 5}, {16, 16, 16, 16, 0, 0, 1, 0}, slices.Repeat([]int{16}, 16)} {
		wrong(t, "more rules in all", spread(counts...), api.ErrLimit)
	}
}

func TestTheRuleTooMany(t *testing.T) {
	many := func() api.Policy { return spread(16, 0, 16, 15, 16, 0, 3, 0) }
	at := func(p *api.Policy, i int) *api.Policy {
		if i%3 == 1 {
			return &p.Kids[i].Kids[0]
		}
		return &p.Kids[i]
	}
	wrong(t, "one rule too many", many(), api.ErrLimit)
	// The rule above MaxAll is the second of the policy at 6.
	for what, c := range map[string]struct {
		put  func(p *api.Policy)
		want api.Errno
	}{
		"the rule's name":         {func(p *api.Policy) { at(p, 6).Rules[1].Id = "" }, api.ErrArg},
		"the rule's name again":   {func(p *api.Policy) { at(p, 6).Rules[1].Id = "r0" }, api.ErrArg},
		"the rule's target":       {func(p *api.Policy) { at(p, 6).Rules[1].Target = api.Target{{}} }, api.ErrLimit},
		"the rule's condition":    {func(p *api.Policy) { at(p, 6).Rules[1].Cond = row(0) }, api.ErrLimit},
		"the rule's duties":       {func(p *api.Policy) { at(p, 6).Rules[1].Obls = make([]api.Obl, 1) }, api.ErrLimit},
		"the last one's name":     {func(p *api.Policy) { at(p, 6).Rules[0].Id = "" }, api.ErrArg},
		"the last one's target":   {func(p *api.Policy) { at(p, 6).Rules[0].Target = api.Target{{}} }, api.ErrArg},
		"the last one's duties":   {func(p *api.Policy) { at(p, 6).Rules[0].Obls = make([]api.Obl, 1) }, api.ErrArg},
		"the rule's policy":       {func(p *api.Policy) { at(p, 6).Obls = make([]api.Obl, 1) }, api.ErrArg},
		"the rule behind":         {func(p *api.Policy) { at(p, 6).Rules[2].Id = "" }, api.ErrLimit},
		"the policy behind":       {func(p *api.Policy) { at(p, 7).Id = "" }, api.ErrLimit},
		"the set behind":          {func(p *api.Policy) { p.Kids[7].Alg = 0 }, api.ErrLimit},
		"the first rule":          {func(p *api.Policy) { at(p, 0).Rules[0].Cond = row(0) }, api.ErrArg},
		"a policy without rules":  {func(p *api.Policy) { at(p, 5).Alg = 0 }, api.ErrArg},
		"a rule in a policy deep": {func(p *api.Policy) { at(p, 4).Rules[15].Cond = row(api.NAttr) }, api.ErrArg},
	} {
		p := many()
		c.put(&p)
		wrong(t, what, p, c.want)
	}
}

// big has policies and sets at all depths, with all that they may have. Each of them is told by the places of the kids that lead to it.
func big() api.Policy {
	d, f, h := plain("d", full("d1"), full("d2"), full("d3")), plain("f", full("f1"), full("f2")), plain("h", full("h1"))
	return rich(set("a", rich(set("b", rich(set("c", rich(d), rich(set("e")))), rich(f))), rich(set("g")), rich(h)))
}

func paths() [][]int {
	return [][]int{{}, {0}, {0, 0}, {0, 0, 0}, {0, 0, 1}, {0, 1}, {1}, {2}}
}

func to(p *api.Policy, path []int) *api.Policy {
	for _, i := range path {
		p = &p.Kids[i]
	}
	return p
}

// dutyFaults and the target's are put in at one place of a policy.
func dutyFaults(what string, l func(p *api.Policy) *[]api.Obl) []fault[api.Policy] {
	return []fault[api.Policy]{
		{what + ": too many duties", api.ErrLimit, func(p *api.Policy) { o := l(p); *o = append(*o, duties(maxObls)...) }},
		{what + ": its first duty", api.ErrArg, func(p *api.Policy) { (*l(p))[0].On = 3 }},
		{what + ": its last duty", api.ErrArg, func(p *api.Policy) { o := *l(p); o[len(o)-1].Arg = "" }},
	}
}

func targetFaultsIn(what string, l func(p *api.Policy) *api.Target) []fault[api.Policy] {
	var out []fault[api.Policy]
	all := targetFaults(2, 2, 2)
	for _, i := range []int{0, 2, 5, len(all) - 1} {
		f := all[i]
		out = append(out, fault[api.Policy]{what + ": " + f.what, f.want, func(p *api.Policy) { f.put(l(p)) }})
	}
	return out
}

func ruleFaults(path []int, i int) []fault[api.Policy] {
	r := func(p *api.Policy) *api.Rule { return &to(p, path).Rules[i] }
	what := "rule " + r(new(big())).Id
	return slices.Concat(
		[]fault[api.Policy]{
			{what + ": no name", api.ErrArg, func(p *api.Policy) { r(p).Id = "" }},
			{what + ": a name again", api.ErrArg, func(p *api.Policy) { r(p).Id = "a" }},
		},
		targetFaultsIn(what, func(p *api.Policy) *api.Target { return &r(p).Target }),
		[]fault[api.Policy]{
			{what + ": too many nodes", api.ErrLimit, func(p *api.Policy) { r(p).Cond = append(r(p).Cond, make([]api.Node, maxExpr)...) }},
			{what + ": its condition", api.ErrArg, func(p *api.Policy) { r(p).Cond[0].Op = 0 }},
			{what + ": a bag left", api.ErrArg, func(p *api.Policy) { r(p).Cond = row(api.NAttr) }},
		},
		dutyFaults(what, func(p *api.Policy) *[]api.Obl { return &r(p).Obls }),
	)
}

// ownFaults are a policy's own, ahead of its rules and kids. A name again is none of the root: nothing was met ahead of it.
func ownFaults(path []int) []fault[api.Policy] {
	at := func(p *api.Policy) *api.Policy { return to(p, path) }
	is := *at(new(big()))
	what := "policy " + is.Id
	l := []fault[api.Policy]{{what + ": no name", api.ErrArg, func(p *api.Policy) { at(p).Id = "" }}}
	if len(path) > 0 {
		l = append(l, fault[api.Policy]{what + ": a name again", api.ErrArg, func(p *api.Policy) { at(p).Id = "a" }})
	}
	l = append(l, fault[api.Policy]{what + ": no algorithm", api.ErrArg, func(p *api.Policy) { at(p).Alg = 0 }})
	if is.Set {
		l = append(l, fault[api.Policy]{what + ": a set's rules", api.ErrArg, func(p *api.Policy) { at(p).Rules = rules(0, 1) }})
	} else {
		l = append(l,
			fault[api.Policy]{what + ": a policy's kids", api.ErrArg, func(p *api.Policy) { at(p).Kids = kids(1) }},
			fault[api.Policy]{what + ": a policy's only", api.ErrArg, func(p *api.Policy) { at(p).Alg = api.OnlyOne }},
		)
	}
	l = append(l, targetFaultsIn(what, func(p *api.Policy) *api.Target { return &at(p).Target })...)
	l = append(l, dutyFaults(what, func(p *api.Policy) *[]api.Obl { return &at(p).Obls })...)
	if is.Set {
		return append(l, fault[api.Policy]{what + ": too many kids", api.ErrLimit, func(p *api.Policy) { at(p).Kids = append(at(p).Kids, kids(maxKids+1)...) }})
	}
	return append(l, fault[api.Policy]{what + ": too many rules", api.ErrLimit, func(p *api.Policy) { at(p).Rules = append(at(p).Rules, rules(0, maxKids)...) }})
}

// bigFaults are all of big's, in P8.5's order.
func bigFaults() []fault[api.Policy] {
	var l []fault[api.Policy]
	for _, path := range paths() {
		l = append(l, ownFaults(path)...)
		for i := range to(new(big()), path).Rules {
			l = append(l, ruleFaults(path, i)...)
		}
		if slices.Equal(path, []int{0, 0, 1}) {
			l = append(l, fault[api.Policy]{"a policy too deep", api.ErrLimit, func(p *api.Policy) {
				e := to(p, path)
				e.Kids = append([]api.Policy{{}}, e.Kids...)
			}})
		}
	}
	return l
}

func TestTheFirstOfAPolicysFaults(t *testing.T) {
	right(t, "a big one", big(), 6)
	firstIsTold(t, big, policy.Right, bigFaults())
}

// names are all of big's, in the order in which they are met.
func names(p *api.Policy) []*string {
	l := []*string{&p.Id}
	for i := range p.Rules {
		l = append(l, &p.Rules[i].Id)
	}
	for i := range p.Kids {
		l = append(l, names(&p.Kids[i])...)
	}
	return l
}

// oblsOf are the duties that stand behind each of the names.
func oblsOf(p *api.Policy) []*[]api.Obl {
	l := []*[]api.Obl{&p.Obls}
	for i := range p.Rules {
		l = append(l, &p.Rules[i].Obls)
	}
	for i := range p.Kids {
		l = append(l, oblsOf(&p.Kids[i])...)
	}
	return l
}

func TestTheSameNameTwice(t *testing.T) {
	count := len(names(new(big())))
	if count != 8+6 {
		t.Fatal(count)
	}
	for i := range count {
		for k := range i {
			p := big()
			l := names(&p)
			*l[i] = strings.Clone(*l[k])
			wrong(t, *l[k]+" twice", p, api.ErrArg)
			// It is told where it is met again: what is wrong between the two is told ahead of it.
			for m := range count {
				p := big()
				l, o := names(&p), oblsOf(&p)
				*l[i], *o[m] = *l[k], duties(maxObls+1)
				want := api.ErrLimit
				if m >= i {
					want = api.ErrArg
				}
				wrong(t, *l[k]+" twice, and too many duties", p, want)
			}
		}
	}
	wrong(t, "policy and rule", plain("p", rule("p")), api.ErrArg)
	wrong(t, "two rules", plain("p", rule("a"), rule("b"), rule("a")), api.ErrArg)
	wrong(t, "two kids", set("s", plain("p"), plain("q"), set("p")), api.ErrArg)
	wrong(t, "set and kid", set("s", plain("s")), api.ErrArg)
	wrong(t, "a rule and a kid deeper", set("s", plain("p", rule("x")), set("q", set("y", plain("x")))), api.ErrArg)
	wrong(t, "rules of two kids", set("s", plain("p", rule("x")), plain("q", rule("x"))), api.ErrArg)
}

func TestNamesThatAreNotIdsMayStandAgain(t *testing.T) {
	r := api.Rule{Id: "r", Target: api.Target{{{{Attr: attr(api.CCase, "p"), Op: api.MEq, Value: id("r")}}}}, Cond: []api.Node{of(attr(api.CCase, "r")), lit(id("p")), node(api.NHas)}, Obls: []api.Obl{obl(1, api.OLog, "r"), obl(1, api.OLog, "r")}}
	p := plain("p", r)
	p.Target, p.Obls = r.Target, []api.Obl{obl(2, api.OReview, "p"), obl(2, api.OReview, "p")}
	right(t, "names of other things", p, 1)
	right(t, "names that begin alike", plain("a", rule("aa"), rule("aaa"), rule("a_"), rule("a0")), 4)
}

func TestAskedTwiceItSaysTheSame(t *testing.T) {
	p := big()
	for range 3 {
		right(t, "a big one", p, 6)
		right(t, "with the same names", plain("a", rule("b")), 1)
		wrong(t, "without a name", plain(""), api.ErrArg)
	}
	for range maxAll {
		right(t, "many rules", spread(16, 16, 16, 16), maxAll)
	}
}

func TestPoliciesThatHoldThemselves(t *testing.T) {
	for _, names := range [][]string{{"b"}, {"b", "c"}, {"b", "c", "d", "e", "f"}, {""}, {"a"}} {
		l := make([]api.Policy, len(names))
		for i, n := range names {
			l[i] = set(n, l...)
		}
		wrong(t, "a set of itself", set("a", l...), api.ErrArg)
	}
	// Each set holds the one ahead of it twice: gone all through, these would never come to an end.
	p := plain("p")
	for i := range 60 {
		p = set("s"+strconv.Itoa(i), p, p)
	}
	if policy.Right(p) == api.OK || policy.Rules(p) != 0 {
		t.Error("sets of one set twice are right")
	}
}

// What is handed in

// roomy is the list with room behind it in which something stands that would be wrong.
func roomy[T any](l []T, wrong T) []T {
	out := append(make([]T, 0, len(l)+3), l...)
	behind := out[:cap(out)]
	for i := len(out); i < len(behind); i++ {
		behind[i] = wrong
	}
	return out
}

func roomyTarget(t api.Target) api.Target {
	out := api.Target{}
	for _, l := range t {
		allOfs := [][]api.Match{}
		for _, m := range l {
			allOfs = append(allOfs, roomy(m, api.Match{Op: 9}))
		}
		out = append(out, roomy(allOfs, []api.Match{{Op: 8}}))
	}
	return roomy(out, [][]api.Match{{{Op: 7}}})
}

func roomyPolicy(p api.Policy) api.Policy {
	for i, r := range p.Rules {
		r.Target, r.Cond, r.Obls = roomyTarget(r.Target), roomy(r.Cond, node(99)), roomy(r.Obls, obl(9, 9, ""))
		p.Rules[i] = r
	}
	for i := range p.Kids {
		p.Kids[i] = roomyPolicy(p.Kids[i])
	}
	p.Target, p.Obls = roomyTarget(p.Target), roomy(p.Obls, obl(9, 9, ""))
	p.Rules, p.Kids = roomy(p.Rules, rule("A")), roomy(p.Kids, plain("A"))
	return p
}

// unroll shows all of a list, its spare room too.
func unroll[T any](l []T) []T { return slices.Clone(l[:cap(l)]) }

func unrollTarget(t api.Target) any {
	var out []any
	for _, l := range unroll(t) {
		for _, m := range unroll(l) {
			out = append(out, len(m), unroll(m))
		}
		out = append(out, len(l))
	}
	return append(out, len(t))
}

func unrollPolicy(p api.Policy) any {
	out := []any{p.Id, p.Set, p.Alg, len(p.Rules), len(p.Kids), unrollTarget(p.Target), unroll(p.Obls)}
	for _, r := range unroll(p.Rules) {
		out = append(out, r.Id, r.Deny, unrollTarget(r.Target), unroll(r.Cond), unroll(r.Obls))
	}
	for _, k := range unroll(p.Kids) {
		out = append(out, unrollPolicy(k))
	}
	return out
}

func stays[T any](t *testing.T, x T, all func(T) any, ask func(T)) {
	t.Helper()
	was := all(x)
	ask(x)
	if !reflect.DeepEqual(was, all(x)) {
		t.Errorf("%+v is no longer as it was", x)
	}
}

func TestWhatIsHandedInStays(t *testing.T) {
	stays(t, roomyTarget(cube(3, 3, 3)), unrollTarget, func(x api.Target) { is(t, "a target", policy.Target(x), api.OK) })
	for _, l := range rows() {
		stays(t, roomy(l, node(99)), func(x []api.Node) any { return unroll(x) }, func(x []api.Node) { is(t, "an expression", policy.Expr(x), api.OK) })
	}
	stays(t, roomy(duties(maxObls), obl(9, 9, "")), func(x []api.Obl) any { return unroll(x) }, func(x []api.Obl) { is(t, "duties", policy.Obls(x), api.OK) })
	stays(t, roomyPolicy(big()), unrollPolicy, func(x api.Policy) { right(t, "a policy", x, 6) })
	for _, f := range bigFaults() {
		p := roomyPolicy(big())
		f.put(&p)
		stays(t, p, unrollPolicy, func(x api.Policy) { wrong(t, f.what, x, f.want) })
	}
}

// What is handed in and what was answered have nothing to do with each other any more.
func TestNothingIsKept(t *testing.T) {
	p := big()
	right(t, "a big one", p, 6)
	p.Kids[0].Id = "x"
	p.Kids[2].Rules[0].Id = "b"
	right(t, "with a name that is free again", p, 6)
	p.Kids[2].Rules[0].Id = "x"
	wrong(t, "with a name that is taken now", p, api.ErrArg)
}
