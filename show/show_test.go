package show_test

import (
	"math"
	"slices"
	"strings"
	"testing"

	"bailiff/api"
	"bailiff/policy"
	"bailiff/show"
)

// The limits as the document's page has them.
const (
	maxText   = 64
	maxTick   = 1 << 40
	maxExpr   = 32
	maxMatch  = 8
	maxObls   = 8
	maxKids   = 16
	maxDeep   = 4
	maxAll    = 64
	maxPolicy = 4096
)

// The words of the language, as chapter 9 has them, in the order of their numbers.
var (
	algorithms  = []string{"denyover", "permitover", "first", "only", "denyunless", "permitunless"}
	categories  = []string{"subject", "action", "case", "env"}
	comparisons = []string{"=", "<", ">"}
	functions   = []string{"one", "size", "has", "eq", "less", "add", "sub", "mul", "not", "and", "or"}
	effects     = []string{"permit", "deny"}
	doings      = []string{"log", "redact", "review", "notify"}
)

func names() []string {
	l := slices.Concat(algorithms, categories, functions, effects, doings)
	return append(l, "policy", "set", "when", "if", "on", "true", "false", "a", "z_9", "abcdefghijklmnop")
}

func badNames() []string {
	return []string{"", "A", "aB", "9a", "_a", "a-b", "a b", " a", "a.b", "#a", "a!", "a\x00", "ä", "abcdefghijklmnopq", strings.Repeat("a", 1<<16)}
}

func boolean(n int) api.Value { return api.Value{Kind: api.KBool, N: n} }
func whole(n int) api.Value   { return api.Value{Kind: api.KInt, N: n} }
func text(s string) api.Value { return api.Value{Kind: api.KText, S: s} }
func tick(n int) api.Value    { return api.Value{Kind: api.KTick, N: n} }
func id(s string) api.Value   { return api.Value{Kind: api.KId, S: s} }

// shown is a thing, and what it must be written as.
type shown[T any] struct {
	is   T
	want string
}

func values() []shown[api.Value] {
	return []shown[api.Value]{
		{boolean(0), "false"}, {boolean(1), "true"},
		{whole(0), "0"}, {whole(1), "1"}, {whole(-7), "-7"}, {whole(math.MaxInt), "9223372036854775807"}, {whole(math.MinInt), "-9223372036854775808"},
		{tick(0), "@0"}, {tick(5), "@5"}, {tick(maxTick), "@1099511627776"},
		{id("a"), "#a"}, {id("true"), "#true"}, {id("abcdefghijklmnop"), "#abcdefghijklmnop"},
		{text(""), `""`}, {text("a"), `"a"`}, {text("-7"), `"-7"`}, {text(" ( a  b ; "), `" ( a  b ; "`}, {text("\"\\\n\x00"), `"\22\5c\0a\00"`},
		{text(" ~\x1f\x7f\xff"), `" ~\1f\7f\ff"`}, {text(strings.Repeat("\xab", maxText)), `"` + strings.Repeat(`\ab`, maxText) + `"`},
	}
}

func badValues() []api.Value {
	return []api.Value{
		{}, {N: 1}, {S: "a"}, {Kind: 6}, {Kind: -1}, boolean(2), boolean(-1), {Kind: api.KBool, S: "x"}, {Kind: api.KInt, S: "x"},
		{Kind: api.KText, N: 1}, text(strings.Repeat("a", maxText+1)), tick(-1), tick(maxTick + 1), {Kind: api.KTick, S: "x"},
		id(""), id("Ann"), id("abcdefghijklmnopq"), {Kind: api.KId, S: "a", N: 1},
	}
}

func attr(cat int, name string) api.Attr { return api.Attr{Cat: cat, Name: name} }
func must(cat int, name string) api.Attr { return api.Attr{Cat: cat, Name: name, Must: true} }

func lit(v api.Value) api.Node { return api.Node{Op: api.NLit, Value: v} }
func of(a api.Attr) api.Node   { return api.Node{Op: api.NAttr, Attr: a} }
func call(op int) api.Node     { return api.Node{Op: op} }

// calls are the nodes without a value and an attribute of their own.
func calls(ops ...int) []api.Node {
	var l []api.Node
	for _, op := range ops {
		l = append(l, call(op))
	}
	return l
}

// others are numbers of nothing, where 1 to last are numbers of something.
func others(last int) []int {
	return []int{0, -1, -last, last + 1, last + 2, math.MinInt, math.MinInt + 1, math.MaxInt, 1<<8 + 1, 1<<32 + 1}
}

func expr(t *testing.T, want string, l ...api.Node) {
	t.Helper()
	if got := show.Expr(l); got != want {
		t.Errorf("%q, not %q", got, want)
	}
}

func noExpr(t *testing.T, l ...api.Node) {
	t.Helper()
	if got := show.Expr(l); got != "" {
		t.Errorf("%+v: %q, not the empty text", l, got)
	}
}

// P10.1

func TestAttributes(t *testing.T) {
	for i, cat := range categories {
		for _, name := range names() {
			for _, c := range []shown[api.Attr]{{attr(i+1, name), cat + "." + name}, {must(i+1, name), cat + "." + name + "!"}} {
				if got := show.Attr(c.is); got != c.want {
					t.Errorf("%+v: %q, not %q", c.is, got, c.want)
				}
			}
		}
	}
}

func TestAttributesThatArentRight(t *testing.T) {
	l := []api.Attr{{}, {Must: true}}
	for _, cat := range others(len(categories)) {
		l = append(l, attr(cat, "a"), must(cat, "a"), attr(cat, ""))
	}
	for _, name := range badNames() {
		for cat := range 6 {
			l = append(l, attr(cat, name), must(cat, name))
		}
	}
	for _, a := range l {
		if got := show.Attr(a); got != "" {
			t.Errorf("%+v: %q, not the empty text", a, got)
		}
		noExpr(t, of(a), call(api.NOne))
		noExpr(t, of(a), lit(whole(1)), call(api.NHas))
	}
}

// P10.2

func TestExpressionsOfOneNode(t *testing.T) {
	for _, v := range values() {
		expr(t, v.want, lit(v.is))
	}
}

func TestEachFunction(t *testing.T) {
	a, b := of(attr(api.CCase, "a")), of(must(api.CEnv, "b"))
	one, two := lit(whole(1)), lit(id("two"))
	for i, w := range functions {
		op := call(api.NOne + i)
		switch w {
		case "one", "size":
			expr(t, "("+w+" case.a)", a, op)
			expr(t, "("+w+" env.b!)", b, op)
			expr(t, "(not ("+w+" env.b!))", b, op, call(api.NNot))
		case "has":
			expr(t, "(has case.a #two)", a, two, op)
			expr(t, "(has env.b! (one case.a))", b, a, call(api.NOne), op)
			expr(t, "(has env.b! (has case.a 1))", b, a, one, op, op)
		case "not":
			expr(t, "(not 1)", one, op)
			expr(t, "(not (not (not #two)))", two, op, op, op)
			expr(t, "(not (less #two 1))", two, one, call(api.NLess), op)
		default:
			expr(t, "("+w+" 1 #two)", one, two, op)
			expr(t, "("+w+" #two 1)", two, one, op)
			expr(t, "("+w+" ("+w+" 1 #two) 1)", one, two, op, one, op)
			expr(t, "("+w+" 1 ("+w+" 1 #two))", one, one, two, op, op)
			expr(t, "("+w+" ("+w+" 1 #two) ("+w+" #two 1))", one, two, op, two, one, op, op)
			expr(t, "("+w+" (one case.a) (size env.b!))", a, call(api.NOne), b, call(api.NSize), op)
		}
		for _, v := range values() {
			expr(t, "(has case.a "+v.want+")", a, lit(v.is), call(api.NHas))
			expr(t, "(or (not "+v.want+") "+v.want+")", lit(v.is), call(api.NNot), lit(v.is), call(api.NOr))
		}
	}
}

func TestFunctionsWithinFunctions(t *testing.T) {
	a, one, two := of(attr(api.CCase, "a")), lit(whole(1)), lit(whole(2))
	expr(t, "(and (less (add 1 (mul 2 1)) 2) (has case.a (one subject.id!)))",
		one, two, one, call(api.NMul), call(api.NAdd), two, call(api.NLess), a, of(must(api.CSubject, "id")), call(api.NOne), call(api.NHas), call(api.NAnd))
	expr(t, "(sub (sub (sub 1 2) 2) (sub 2 (sub 2 1)))",
		one, two, call(api.NSub), two, call(api.NSub), two, two, one, call(api.NSub), call(api.NSub), call(api.NSub))
	for i, cat := range categories {
		for _, name := range names() {
			expr(t, "(eq (size "+cat+"."+name+") (one "+cat+"."+name+"!))", of(attr(i+1, name)), call(api.NSize), of(must(i+1, name)), call(api.NOne), call(api.NEq))
		}
	}
}

// Each expression of up to MaxExpr nodes, and one more, in shapes that grow on either side.
func TestLongExpressions(t *testing.T) {
	one, a := lit(whole(1)), of(attr(api.CCase, "a"))
	for n := range 3 * maxExpr {
		long(t, strings.Repeat("(not ", n)+"1"+strings.Repeat(")", n), append([]api.Node{one}, repeat(n, call(api.NNot))...))
		long(t, strings.Repeat("(not ", n)+"(one case.a)"+strings.Repeat(")", n), append([]api.Node{a, call(api.NOne)}, repeat(n, call(api.NNot))...))
		long(t, strings.Repeat("(add 1 ", n)+"1"+strings.Repeat(")", n), append(repeat(n+1, one), repeat(n, call(api.NAdd))...))
		long(t, strings.Repeat("(add ", n)+"1"+strings.Repeat(" 1)", n), append([]api.Node{one}, repeat(n, one, call(api.NAdd))...))
		long(t, strings.Repeat("(has case.a ", n)+"1"+strings.Repeat(")", n), append(append(repeat(n, a), one), repeat(n, call(api.NHas))...))
	}
}

func repeat(n int, l ...api.Node) []api.Node { return slices.Repeat(l, n) }

func long(t *testing.T, want string, l []api.Node) {
	t.Helper()
	if len(l) > maxExpr {
		want = ""
	}
	expr(t, want, l...)
}

func TestExpressionsThatArentRight(t *testing.T) {
	a, one := of(attr(api.CCase, "a")), lit(whole(1))
	noExpr(t)
	if got := show.Expr([]api.Node{}); got != "" {
		t.Error(got)
	}
	// A bag is left, or two things.
	noExpr(t, a)
	noExpr(t, of(must(api.CEnv, "b")))
	noExpr(t, one, one)
	noExpr(t, a, one)
	noExpr(t, one, a)
	noExpr(t, a, a)
	noExpr(t, a, call(api.NOne), a, call(api.NOne))
	for op := api.NOne; op <= api.NOr; op++ {
		noExpr(t, call(op))
		noExpr(t, one, one, one, call(op))
		noExpr(t, a, a, a, call(op))
		noExpr(t, one, call(op), one)
		if op != api.NNot {
			noExpr(t, one, call(op))
		}
		if op != api.NOne && op != api.NSize {
			noExpr(t, a, call(op))
		}
		noExpr(t, one, a, call(op))
		// What isn't the node's own.
		noExpr(t, a, one, api.Node{Op: op, Value: whole(0)})
		noExpr(t, a, api.Node{Op: op, Attr: attr(api.CCase, "a")})
		noExpr(t, one, api.Node{Op: op, Value: whole(0)})
		noExpr(t, one, one, api.Node{Op: op, Attr: api.Attr{Must: true}})
	}
	for _, op := range others(api.NOr) {
		noExpr(t, call(op))
		noExpr(t, one, call(op))
		noExpr(t, one, one, call(op))
		noExpr(t, a, one, call(op))
		noExpr(t, api.Node{Op: op, Value: whole(1)})
	}
	for _, v := range badValues() {
		noExpr(t, lit(v))
		noExpr(t, lit(v), call(api.NNot))
		noExpr(t, one, lit(v), call(api.NEq))
	}
	noExpr(t, api.Node{Op: api.NLit, Value: whole(1), Attr: attr(api.CCase, "a")})
	noExpr(t, api.Node{Op: api.NAttr, Value: whole(1), Attr: attr(api.CCase, "a")}, call(api.NOne))
	noExpr(t, repeat(1<<16, one)...)
}

// Every row of up to four nodes: the empty text just where policy.Expr doesn't take it.
func TestExpressionsAreAskedFirst(t *testing.T) {
	kinds := append(calls(0, api.NOne, api.NSize, api.NHas, api.NEq, api.NSub, api.NNot, api.NOr, api.NOr+1), lit(whole(1)), of(attr(api.CCase, "a")))
	written := 0
	for i := range 11 * 11 * 11 * 11 {
		var l []api.Node
		for n := i; n > 0; n /= len(kinds) {
			l = append(l, kinds[n%len(kinds)])
		}
		got, right := show.Expr(l), policy.Expr(l) == api.OK && len(l) > 0
		if (got != "") != right {
			t.Fatalf("%+v: %q", l, got)
		}
		if right {
			written++
		}
	}
	if written < 20 {
		t.Fatalf("only %d were right", written)
	}
}
