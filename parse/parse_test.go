package parse_test

import (
	"fmt"
	"reflect"
	"slices"
	"strconv"
	"strings"
	"testing"
	"unsafe"

	"bailiff/api"
	"bailiff/parse"
	"bailiff/policy"
)

// The limits as the document's page has them.
const (
	maxName   = 16
	maxText   = 64
	maxTick   = 1 << 40
	maxExpr   = 32
	maxMatch  = 8
	maxObls   = 8
	maxKids   = 16
	maxDeep   = 4
	maxAll    = 64
	maxPolicy = 4096
	least     = -1 << 63
	most      = 1<<63 - 1
)

// The words of the language, as P9.1 has them; where they have numbers, in the order of these.
var (
	algorithms = []string{"denyover", "permitover", "first", "only", "denyunless", "permitunless"}
	categories = []string{"subject", "action", "case", "env"}
	comparings = []string{"=", "<", ">"}
	functions  = []string{"one", "size", "has", "eq", "less", "add", "sub", "mul", "not", "and", "or"}
	effects    = []string{"permit", "deny"}
	doings     = []string{"log", "redact", "review", "notify"}
	others     = []string{"policy", "set", "when", "if", "on", "true", "false"}
	marks      = []string{"{", "}", "(", ")", ".", ",", ";", "=", "<", ">", "!"}
)

// language is each word once: and, or are of two kinds.
func language() []string {
	return slices.Concat(algorithms, categories, functions, effects, doings, others)
}

func boolean(n int) api.Value { return api.Value{Kind: api.KBool, N: n} }
func whole(n int) api.Value   { return api.Value{Kind: api.KInt, N: n} }
func text(s string) api.Value { return api.Value{Kind: api.KText, S: s} }
func tick(n int) api.Value    { return api.Value{Kind: api.KTick, N: n} }
func id(s string) api.Value   { return api.Value{Kind: api.KId, S: s} }

func values() []api.Value {
	return []api.Value{
		boolean(0), boolean(1), whole(0), whole(1), whole(-7), whole(least), whole(most), tick(0), tick(5), tick(maxTick),
		id("a"), id("true"), id("abcdefghijklmnop"), text(""), text("a"), text("true"), text("("), text("}"), text("permit"), text("a b\n\"\\;"), text("\x00\x7f\xff"), text(strings.Repeat("~", maxText)),
	}
}

func attr(cat int, name string) api.Attr { return api.Attr{Cat: cat, Name: name} }
func must(cat int, name string) api.Attr { return api.Attr{Cat: cat, Name: name, Must: true} }

func lit(v api.Value) api.Node { return api.Node{Op: api.NLit, Value: v} }
func of(a api.Attr) api.Node   { return api.Node{Op: api.NAttr, Attr: a} }
func call(op int) api.Node     { return api.Node{Op: op} }

// reads wants a policy and no error, whatever was asked ahead, and the text as the one that the policy has.
func reads(t *testing.T, s string, want api.Policy) {
	t.Helper()
	p, err, at := parse.Policy(s)
	if !reflect.DeepEqual(p, want) || err != api.OK || at != 0 {
		t.Fatalf("%q: %+v, error %d at %d, not %+v", s, p, err, at, want)
	}
	if got := policy.Right(p); got != api.OK {
		t.Fatalf("%q: %+v is not right: error %d", s, p, got)
	}
	if got, l := told(tokens(s)); got != api.OK {
		t.Fatalf("%q: the grammar tells error %d at %d", s, got, l)
	}
	if got := strings.Join(written(p), " "); got != strings.Join(parts(s), " ") {
		t.Fatalf("%q: read as %s", s, got)
	}
}

func refused(t *testing.T, s string, want api.Errno, place int) {
	t.Helper()
	if p, err, at := parse.Policy(s); !reflect.DeepEqual(p, api.Policy{}) || err != want || at != place {
		t.Fatalf("%q: %+v, error %d at %d, not %d at %d", s, p, err, at, want, place)
	}
}

// at wants an error at the token behind the ? of a text, which is left out. The grammar must tell it there, too.
func at(t *testing.T, s string, want api.Errno) {
	t.Helper()
	before, behind, found := strings.Cut(s, "?")
	s = before + behind
	place := len(s) - len(strings.TrimLeft(behind, " \n"))
	refused(t, s, want, place)
	if err, other := told(tokens(s)); !found || err != want || other != place {
		t.Fatalf("%q: the grammar tells error %d at %d, not %d at %d", s, err, other, want, place)
	}
}

func wrong(t *testing.T, s string) {
	t.Helper()
	at(t, s, api.ErrSyntax)
}

func limited(t *testing.T, s string) {
	t.Helper()
	at(t, s, api.ErrLimit)
}

// fine wants what may be, and nothing else than what stands there.
func fine(t *testing.T, s string) api.Policy {
	t.Helper()
	p, err, _ := parse.Policy(s)
	if err != api.OK {
		t.Fatalf("%q: error %d", s, err)
	}
	reads(t, s, p)
	return p
}

// agrees wants of parts, each ahead of a blank, what the grammar tells, and, where it tells nothing, just what stands there.
func agrees(t *testing.T, l []string) bool {
	t.Helper()
	s, row := laid(l, func() string { return " " })
	want, place := told(row)
	p, err, at := parse.Policy(s)
	if err != want || at != place {
		t.Fatalf("%q: error %d at %d, not %d at %d", s, err, at, want, place)
	}
	if err != api.OK {
		if !reflect.DeepEqual(p, api.Policy{}) {
			t.Fatalf("%q: %+v beside an error", s, p)
		}
		return false
	}
	if got := written(p); !slices.Equal(got, l) {
		t.Fatalf("%q: read as %q", s, got)
	}
	return true
}

// tokens parts a text in which no blank stands within a token, and nothing is wrong but the order.
func tokens(s string) []token {
	var l []token
	for at := 0; at < len(s); {
		size := length(s[at:])
		if size > 0 {
			l = append(l, token{kindOf(s[at : at+size]), s[at : at+size], at})
		}
		at += max(size, 1)
	}
	return append(l, token{"END", "", len(s)})
}

// length is how long a token goes on; 0: here is a blank.
func length(s string) int {
	switch c := s[0]; {
	case c == ' ' || c == '\n':
		return 0
	case c == '"':
		return strings.IndexByte(s[1:], '"') + 2
	case !wordy(c) && c != '-' && c != '@' && c != '#':
		return 1
	}
	n := 1
	for n < len(s) && wordy(s[n]) {
		n++
	}
	return n
}

func wordy(c byte) bool {
	return c >= 'a' && c <= 'z' || c >= '0' && c <= '9' || c == '_'
}

func parts(s string) []string {
	var l []string
	for _, t := range tokens(s) {
		l = append(l, t.s)
	}
	return l[:len(l)-1]
}

// laid puts parts into a row, with something behind each, and a blank where two would be one without.
func laid(l []string, blanks func() string) (string, []token) {
	var b strings.Builder
	var row []token
	between := ""
	for i, s := range l {
		if i > 0 && between == "" && wordy(l[i-1][len(l[i-1])-1]) && wordy(s[0]) {
			b.WriteString("\n")
		}
		row = append(row, token{kindOf(s), s, b.Len()})
		b.WriteString(s)
		between = blanks()
		b.WriteString(between)
	}
	return b.String(), append(row, token{"END", "", b.Len()})
}

// written is how a policy is written in parts: there is but one way.
func written(p api.Policy) []string {
	l := []string{"policy", p.Id, algorithms[p.Alg-1]}
	if p.Set {
		l[0] = "set"
	}
	l = append(append(l, targetOf(p.Target)...), "{")
	for _, r := range p.Rules {
		l = append(l, ruleOf(r)...)
	}
	for _, k := range p.Kids {
		l = append(l, written(k)...)
	}
	return append(append(l, "}"), dutiesOf(p.Obls)...)
}

func ruleOf(r api.Rule) []string {
	l := []string{"permit", r.Id}
	if r.Deny {
		l[0] = "deny"
	}
	l = append(l, targetOf(r.Target)...)
	if len(r.Cond) > 0 {
		l = append(append(l, "if"), exprOf(r.Cond)...)
	}
	return append(append(l, dutiesOf(r.Obls)...), ";")
}

// joined writes things, the first word ahead of the first of them, and the other ahead of each other one.
func joined[T any](things []T, first, between string, write func(T) []string) []string {
	var l []string
	for i, x := range things {
		ahead := between
		if i == 0 {
			ahead = first
		}
		l = append(append(l, ahead), write(x)...)
	}
	return l
}

func targetOf(t api.Target) []string {
	return joined(t, "when", "and", func(any [][]api.Match) []string {
		l := joined(any, "(", "or", func(all []api.Match) []string {
			return joined(all, "", ",", matchOf)[1:]
		})
		return append(l, ")")
	})
}

func matchOf(m api.Match) []string {
	return append(attrOf(m.Attr), comparings[m.Op-1], valueOf(m.Value))
}

func attrOf(a api.Attr) []string {
	l := []string{categories[a.Cat-1], ".", a.Name}
	if a.Must {
		l = append(l, "!")
	}
	return l
}

func valueOf(v api.Value) string {
	switch v.Kind {
	case api.KBool:
		return strconv.FormatBool(v.N == 1)
	case api.KInt:
		return strconv.Itoa(v.N)
	case api.KTick:
		return "@" + strconv.Itoa(v.N)
	case api.KId:
		return "#" + v.S
	}
	var b strings.Builder
	for _, c := range []byte(v.S) {
		if c >= ' ' && c <= '~' && c != '"' && c != '\\' {
			b.WriteByte(c)
		} else {
			fmt.Fprintf(&b, `\%02x`, c)
		}
	}
	return `"` + b.String() + `"`
}

func exprOf(l []api.Node) []string {
	var stack [][]string
	for _, n := range l {
		var w []string
		switch n.Op {
		case api.NLit:
			w = []string{valueOf(n.Value)}
		case api.NAttr:
			w = attrOf(n.Attr)
		default:
			takes := 2
			if n.Op == api.NOne || n.Op == api.NSize || n.Op == api.NNot {
				takes = 1
			}
			w = []string{"(", functions[n.Op-api.NOne]}
			for _, x := range stack[len(stack)-takes:] {
				w = append(w, x...)
			}
			w = append(w, ")")
			stack = stack[:len(stack)-takes]
		}
		stack = append(stack, w)
	}
	return stack[0]
}

func dutiesOf(l []api.Obl) []string {
	var w []string
	for _, o := range l {
		w = append(w, "on", effects[o.On-1], doings[o.Kind-1], o.Arg)
	}
	return w
}

// next is a row of numbers that is the same each time.
func next(x *uint64, below int) int {
	*x = *x*6364136223846793005 + 1442695040888963407
	return int(*x >> 33 % uint64(below))
}

// maker makes right policies of all kinds.
type maker struct {
	x    uint64
	free []string // names that no policy and no rule has yet
}

func newMaker(seed uint64) *maker {
	m := &maker{x: seed}
	m.free = append(language(), "a", "z_9", "abcdefghijklmnop")
	for i := range m.free {
		k := next(&m.x, i+1)
		m.free[i], m.free[k] = m.free[k], m.free[i]
	}
	for i := range maxAll {
		m.free = append(m.free, "n"+strconv.Itoa(i))
	}
	return m
}

func (m *maker) n(below int) int { return next(&m.x, below) }

func (m *maker) id() string {
	s := m.free[0]
	m.free = m.free[1:]
	return s
}

func (m *maker) name() string {
	l := append(language(), "a", "z_9", "abcdefghijklmnop")
	return l[m.n(len(l))]
}

func (m *maker) value() api.Value {
	l := values()
	return l[m.n(len(l))]
}

func (m *maker) attr() api.Attr {
	return api.Attr{Cat: 1 + m.n(4), Name: m.name(), Must: m.n(2) == 0}
}

// some is a list, often an empty one, which is nil.
func some[T any](n int, one func() T) []T {
	var l []T
	for range n {
		l = append(l, one())
	}
	return l
}

func (m *maker) target() api.Target {
	return some(m.n(3), func() [][]api.Match {
		return some(1+m.n(3), func() []api.Match {
			return some(1+m.n(2), func() api.Match {
				return api.Match{Attr: m.attr(), Op: 1 + m.n(3), Value: m.value()}
			})
		})
	})
}

func (m *maker) duties() []api.Obl {
	return some(max(0, m.n(5)-2), func() api.Obl {
		return api.Obl{On: 1 + m.n(2), Kind: 1 + m.n(4), Arg: m.name()}
	})
}

// expr makes a value, of at most so many nodes.
func (m *maker) expr(room int) []api.Node {
	op := api.NLit
	if room > 3 {
		op = m.n(api.NOr + 1)
	}
	switch op {
	case api.NOne, api.NSize:
		return []api.Node{of(m.attr()), call(op)}
	case api.NHas:
		l := append([]api.Node{of(m.attr())}, m.expr(room-2)...)
		return append(l, call(op))
	case api.NNot:
		return append(m.expr(room-1), call(op))
	case api.NEq, api.NLess, api.NAdd, api.NSub, api.NMul, api.NAnd, api.NOr:
		l := m.expr(room - 2)
		l = append(l, m.expr(room-1-len(l))...)
		return append(l, call(op))
	}
	return []api.Node{lit(m.value())}
}

func (m *maker) rule() api.Rule {
	r := api.Rule{Id: m.id(), Deny: m.n(2) == 0, Target: m.target()}
	if m.n(3) > 0 {
		r.Cond = m.expr(1 + m.n(maxExpr))
	}
	r.Obls = m.duties()
	return r
}

func (m *maker) policy(depth int) api.Policy {
	p := api.Policy{Id: m.id(), Set: depth < maxDeep && m.n(2) == 0, Alg: 1 + m.n(6), Target: m.target()}
	if p.Set {
		p.Kids = some(m.n(4), func() api.Policy { return m.policy(depth + 1) })
	} else {
		p.Rules = some(m.n(4), m.rule)
	}
	if !p.Set && p.Alg == api.OnlyOne {
		p.Alg = api.DenyUnless
	}
	p.Obls = m.duties()
	return p
}

func TestRuns(t *testing.T) {
	cond := []api.Node{of(attr(api.CCase, "owner")), call(api.NOne), lit(id("ann")), call(api.NEq)}
	reads(t, "policy p denyover { permit r if (eq (one case.owner) #ann); }", api.Policy{Id: "p", Alg: api.DenyOverrides, Rules: []api.Rule{{Id: "r", Cond: cond}}})
	refused(t, "policy p denyover { permit r }", api.ErrSyntax, 29)
	refused(t, "policy p only { }", api.ErrSyntax, 17)
	refused(t, "policy p first { permit r if case.x; }", api.ErrSyntax, 29)
}

// P9.1

func TestAlgorithms(t *testing.T) {
	for i, w := range algorithms {
		reads(t, "set p "+w+" { }", api.Policy{Id: "p", Set: true, Alg: i + 1})
		reads(t, "set p "+w+" { } on deny log a", api.Policy{Id: "p", Set: true, Alg: i + 1, Obls: []api.Obl{{On: 2, Kind: api.OLog, Arg: "a"}}})
		if i+1 != api.OnlyOne {
			reads(t, "policy p "+w+" { }", api.Policy{Id: "p", Alg: i + 1})
			reads(t, "policy p "+w+" { deny r; }", api.Policy{Id: "p", Alg: i + 1, Rules: []api.Rule{{Id: "r", Deny: true}}})
			reads(t, "set s "+w+" { policy p "+w+" { } }", api.Policy{Id: "s", Set: true, Alg: i + 1, Kids: []api.Policy{{Id: "p", Alg: i + 1}}})
		}
	}
}

func TestDepths(t *testing.T) {
	p := api.Policy{Id: "p1", Alg: api.FirstApplicable, Rules: []api.Rule{{Id: "r1"}, {Id: "r2", Deny: true}, {Id: "r3"}}}
	s := "policy p1 first { permit r1; deny r2; permit r3; }"
	reads(t, s, p)
	for i := range maxDeep - 1 {
		one, two := "a"+strconv.Itoa(i), "b"+strconv.Itoa(i)
		p = api.Policy{Id: "s" + strconv.Itoa(i), Set: true, Alg: api.OnlyOne, Kids: []api.Policy{{Id: one, Alg: api.DenyUnless}, p, {Id: two, Set: true, Alg: api.DenyOverrides}}}
		s = "set s" + strconv.Itoa(i) + " only { policy " + one + " denyunless { } " + s + " set " + two + " denyover { } }"
		reads(t, s, p)
	}
}

func TestRules(t *testing.T) {
	target := api.Target{{{{Attr: attr(api.CEnv, "x"), Op: api.MEq, Value: whole(1)}}}}
	cond := []api.Node{lit(boolean(1))}
	obls := []api.Obl{{On: 1, Kind: api.OLog, Arg: "a"}, {On: 1, Kind: api.OLog, Arg: "a"}}
	for _, deny := range []bool{false, true} {
		for some := range 8 {
			r, s := api.Rule{Id: "r", Deny: deny}, "permit r"
			if deny {
				s = "deny r"
			}
			if some&1 > 0 {
				r.Target, s = target, s+" when (env.x = 1)"
			}
			if some&2 > 0 {
				r.Cond, s = cond, s+" if true"
			}
			if some&4 > 0 {
				r.Obls, s = obls, s+" on permit log a on permit log a"
			}
			reads(t, "policy p first { "+s+"; }", api.Policy{Id: "p", Alg: api.FirstApplicable, Rules: []api.Rule{r}})
			reads(t, "policy p first { deny a; "+s+"; permit b; }", api.Policy{Id: "p", Alg: api.FirstApplicable, Rules: []api.Rule{{Id: "a", Deny: true}, r, {Id: "b"}}})
		}
	}
}

func TestTargets(t *testing.T) {
	a := api.Match{Attr: attr(api.CSubject, "a"), Op: api.MEq, Value: whole(1)}
	b := api.Match{Attr: must(api.CAction, "b"), Op: api.MLess, Value: tick(2)}
	c := api.Match{Attr: attr(api.CCase, "c"), Op: api.MMore, Value: text("x")}
	d := api.Match{Attr: must(api.CEnv, "d"), Op: api.MEq, Value: boolean(0)}
	for s, want := range map[string]api.Target{
		"(subject.a = 1)":                      {{{a}}},
		"(subject.a = 1, action.b! < @2)":      {{{a, b}}},
		"(subject.a = 1 or action.b! < @2)":    {{{a}, {b}}},
		"(subject.a = 1) and (action.b! < @2)": {{{a}}, {{b}}},
		`(case.c > "x", case.c > "x" or env.d! = false) and (action.b! < @2, subject.a = 1) and (env.d! = false or case.c > "x" or subject.a = 1)`: {{{c, c}, {d}}, {{b, a}}, {{d}, {c}, {a}}},
	} {
		rule := api.Rule{Id: "r", Target: want}
		reads(t, "policy p first when "+s+" { }", api.Policy{Id: "p", Alg: api.FirstApplicable, Target: want})
		reads(t, "set p first when "+s+" { }", api.Policy{Id: "p", Set: true, Alg: api.FirstApplicable, Target: want})
		reads(t, "policy p first { permit r when "+s+"; }", api.Policy{Id: "p", Alg: api.FirstApplicable, Rules: []api.Rule{rule}})
	}
}

func TestAttributesAndValues(t *testing.T) {
	for i, cat := range categories {
		for _, name := range append(language(), "a", "z_9", "abcdefghijklmnop") {
			for _, end := range []string{"", "!"} {
				a := api.Attr{Cat: i + 1, Name: name, Must: end == "!"}
				s := cat + "." + name + end
				match := api.Match{Attr: a, Op: api.MMore, Value: id(name)}
				reads(t, "policy p first when ("+s+" > #"+name+") { }", api.Policy{Id: "p", Alg: api.FirstApplicable, Target: api.Target{{{match}}}})
				reads(t, "policy p first { deny r if (size "+s+"); }", api.Policy{Id: "p", Alg: api.FirstApplicable, Rules: []api.Rule{{Id: "r", Deny: true, Cond: []api.Node{of(a), call(api.NSize)}}}})
			}
		}
	}
	for _, v := range values() {
		s := valueOf(v)
		for i, w := range comparings {
			match := api.Match{Attr: attr(api.CCase, "x"), Op: i + 1, Value: v}
			reads(t, "policy p first when (case.x "+w+" "+s+") { }", api.Policy{Id: "p", Alg: api.FirstApplicable, Target: api.Target{{{match}}}})
		}
		reads(t, "policy p first { permit r if "+s+"; }", api.Policy{Id: "p", Alg: api.FirstApplicable, Rules: []api.Rule{{Id: "r", Cond: []api.Node{lit(v)}}}})
	}
}

func TestFunctions(t *testing.T) {
	a, b := of(attr(api.CCase, "a")), of(must(api.CEnv, "b"))
	one, two := lit(whole(1)), lit(id("two"))
	for i, w := range functions {
		s, want := w+" 1 #two", []api.Node{one, two}
		within, all := w+" (not 1) (one env.b!)", []api.Node{one, call(api.NNot), b, call(api.NOne)}
		switch w {
		case "one", "size":
			s, want = w+" case.a", []api.Node{a}
			within, all = w+" env.b!", []api.Node{b}
		case "has":
			s, want = w+" case.a #two", []api.Node{a, two}
			within, all = w+" case.a (size env.b!)", []api.Node{a, b, call(api.NSize)}
		case "not":
			s, want = w+" #two", []api.Node{two}
			within, all = w+" (sub 1 #two)", []api.Node{one, two, call(api.NSub)}
		}
		op := call(api.NOne + i)
		readsCond(t, "("+s+")", append(want, op))
		readsCond(t, "("+within+")", append(all, op))
		readsCond(t, "(or ("+s+") ("+within+"))", append(append(append(append(slices.Clone(want), op), all...), op), call(api.NOr)))
	}
	readsCond(t, "(and (less (add 1 (mul 1 1)) #two) (has case.a (one env.b!)))", []api.Node{
		one, one, one, call(api.NMul), call(api.NAdd), two, call(api.NLess), a, b, call(api.NOne), call(api.NHas), call(api.NAnd),
	})
}

func readsCond(t *testing.T, s string, want []api.Node) {
	t.Helper()
	reads(t, "policy p first { permit r if "+s+"; deny q if false; }", api.Policy{Id: "p", Alg: api.FirstApplicable, Rules: []api.Rule{{Id: "r", Cond: want}, {Id: "q", Deny: true, Cond: []api.Node{lit(boolean(0))}}}})
}

func TestDuties(t *testing.T) {
	var row []api.Obl
	long := ""
	for i, on := range effects {
		for k, w := range doings {
			for _, name := range append(language(), "a", "abcdefghijklmnop") {
				o := []api.Obl{{On: i + 1, Kind: k + 1, Arg: name}}
				s := " on " + on + " " + w + " " + name
				reads(t, "policy p first { permit r"+s+"; }", api.Policy{Id: "p", Alg: api.FirstApplicable, Rules: []api.Rule{{Id: "r", Obls: o}}})
				reads(t, "policy p first { }"+s, api.Policy{Id: "p", Alg: api.FirstApplicable, Obls: o})
			}
			row = append(row, api.Obl{On: i + 1, Kind: k + 1, Arg: "on"})
			long += " on " + on + " " + w + " on"
		}
	}
	reads(t, "set s first { policy p first { deny r"+long+"; }"+long+" }"+long, api.Policy{Id: "s", Set: true, Alg: api.FirstApplicable, Obls: row, Kids: []api.Policy{
		{Id: "p", Alg: api.FirstApplicable, Obls: row, Rules: []api.Rule{{Id: "r", Deny: true, Obls: row}}},
	}})
}

func TestWordsAsNames(t *testing.T) {
	for _, w := range append(language(), "a", "z_9", "abcdefghijklmnop") {
		match := api.Target{{{{Attr: attr(api.CCase, w), Op: api.MEq, Value: id(w)}}}}
		rule := api.Rule{Id: w, Target: match, Cond: []api.Node{of(must(api.CEnv, w)), lit(id(w)), call(api.NHas)}, Obls: []api.Obl{{On: 1, Kind: api.OLog, Arg: w}}}
		s := w + " when (case." + w + " = #" + w + ") if (has env." + w + "! #" + w + ") on permit log " + w + ";"
		reads(t, "policy p1 first when (case."+w+" = #"+w+") { permit "+s+" }", api.Policy{Id: "p1", Alg: api.FirstApplicable, Target: match, Rules: []api.Rule{rule}})
		reads(t, "policy "+w+" first { permit r1; }", api.Policy{Id: w, Alg: api.FirstApplicable, Rules: []api.Rule{{Id: "r1"}}})
		reads(t, "policy p1 first { deny "+w+"; }", api.Policy{Id: "p1", Alg: api.FirstApplicable, Rules: []api.Rule{{Id: w, Deny: true}}})
		reads(t, "set "+w+" first { policy p1 first { } }", api.Policy{Id: w, Set: true, Alg: api.FirstApplicable, Kids: []api.Policy{{Id: "p1", Alg: api.FirstApplicable}}})
		reads(t, "set p1 first { set "+w+" first { } } on deny notify "+w, api.Policy{Id: "p1", Set: true, Alg: api.FirstApplicable, Kids: []api.Policy{{Id: w, Set: true, Alg: api.FirstApplicable}}, Obls: []api.Obl{{On: 2, Kind: api.ONotify, Arg: w}}})
	}
}

func TestMixedPolicies(t *testing.T) {
	read := 0
	for i := range 600 {
		m := newMaker(uint64(i))
		want := m.policy(1)
		for _, blanks := range []func() string{
			func() string { return "" },
			func() string { return " " },
			func() string { return "\n" },
			func() string { return []string{"", " ", "\n", " \n", "\n\n", "   "}[m.n(6)] },
		} {
			s, _ := laid(written(want), blanks)
			if len(s)+2 <= maxPolicy {
				read++
				reads(t, s, want)
				reads(t, "\n "+s, want)
			}
		}
	}
	if read < 1500 {
		t.Fatalf("only %d were short enough", read)
	}
}

// Texts of as many bytes as may be, blanks and all.
func TestLengths(t *testing.T) {
	want := api.Policy{Id: "p", Alg: api.FirstApplicable}
	s := "policy p first { }"
	pad := strings.Repeat(" ", maxPolicy-len(s))
	reads(t, s+pad, want)
	reads(t, pad+s, want)
	reads(t, "policy"+pad+" p first { }", want)
	refused(t, s+pad+" ", api.ErrLimit, maxPolicy)
	refused(t, "?"+s+pad, api.ErrLimit, maxPolicy)
	refused(t, strings.Repeat("?", 1<<20), api.ErrLimit, maxPolicy)
}

// What holds everywhere

// R2: a text is not kept, and each list is new memory, its spare room too.
func TestNewMemory(t *testing.T) {
	for i := range 200 {
		m := newMaker(uint64(i))
		want := m.policy(1)
		s, _ := laid(written(want), func() string { return " " })
		if len(s) > maxPolicy {
			continue
		}
		b := []byte(s)
		p, err, _ := parse.Policy(unsafe.String(&b[0], len(b)))
		for i := range b {
			b[i] = '?'
		}
		if err != api.OK || !reflect.DeepEqual(p, want) {
			t.Fatalf("%q: %+v, error %d", s, p, err)
		}
		spoil(p)
		if !reflect.DeepEqual(p, want) {
			t.Fatalf("%q: two lists share memory: %+v", s, p)
		}
		reads(t, s, want)
	}
}

// spoil writes into the spare room of every list.
func spoil(p api.Policy) {
	fill(p.Rules, api.Rule{Id: "?"})
	fill(p.Kids, api.Policy{Id: "?"})
	fill(p.Obls, api.Obl{Arg: "?"})
	spoilTarget(p.Target)
	for _, r := range p.Rules {
		fill(r.Cond, api.Node{Op: -1})
		fill(r.Obls, api.Obl{Arg: "?"})
		spoilTarget(r.Target)
	}
	for _, k := range p.Kids {
		spoil(k)
	}
}

func spoilTarget(t api.Target) {
	fill(t, [][]api.Match{})
	for _, any := range t {
		fill(any, []api.Match{})
		for _, all := range any {
			fill(all, api.Match{Op: -1})
		}
	}
}

func fill[T any](l []T, with T) {
	for i := len(l); i < cap(l); i++ {
		l[:cap(l)][i] = with
	}
}
