package parse_test

import (
	"slices"
	"strings"
	"testing"

	"bailiff/api"
	"bailiff/parse"
)

// rich has every rule of the grammar in it, each way of it but some words, and each list with more than one.
const rich = `set s only when ( subject . a ! = 1 , action . b < @2 or env . c > "x y" ) and ( case . d = #e ) {
	policy p first when ( case . d = true ) {
		permit r when ( env . e > -7 ) if ( has case . f ( one subject . g ! ) ) on permit log h on deny redact i ;
		deny q if ( not ( less ( size env . j ) 3 ) ) ;
		permit t on deny review k ;
		deny u ;
	} on permit notify l on deny log m
	set v denyunless { policy w permitover { } policy x permitunless { permit y if false ; } }
} on deny review n`

// all are tokens of every kind, and every word and mark.
func all() []string {
	return slices.Concat(language(), marks, []string{"a", "0", "-7", "@5", "#a", `"a"`, `"("`, `"permit"`})
}

// P9.1, P9.2: the token that isn't what must stand there

func TestHandMadeFaults(t *testing.T) {
	for _, s := range []string{
		// Nothing, or something else from the beginning on.
		"?", " \n ?", "?1", "?p", "?permit r;", "?{", "?#policy p first { }", `?"policy" p first { }`, "?policies p first { }",
		// A policy's parts.
		"policy?", "policy ?1", "policy ?#p first { }", `policy ?"p" first { }`, "policy ?{ }", "policy p?", "policy p ?{ }", "policy p ?second { }", "policy p ?#first { }", `policy p ?"first" { }`,
		"policy p first?", "policy p first ?}", "policy p first ?if true { }", "policy p first ?on permit log a { }", "policy p first ?(", "policy p first {?", "policy p first ?;", `policy p first ?"{" }`,
		"policy p first { ?policy q first { } }", "policy p first { ?set q first { } }", "policy p first { ?; }", "policy p first { ?r; }", "policy p first { ?on permit log a }", "policy p first { ?#permit r; }",
		"set p first { ?permit r; }", "set p first { ?deny r; }", "set p first { ?p first { } }", "set p first { policy p first { } ?; }", "set p first { policy p first { }?", "set p first { policy p first {?",
		// Behind it all.
		"policy p first { } ?policy q first { }", "policy p first { } ?}", "policy p first { } ?x", "policy p first { } ?;", "policy p first { } on permit log a ?;", "policy p first { } on permit log a ?permit log a", "policy p first { }?}",
		// Rules.
		"policy p first { permit?", "policy p first { permit ?; }", "policy p first { permit ?#r; }", "policy p first { permit r?", "policy p first { permit r ?}", "policy p first { permit r ?permit q; }", "policy p first { permit r ?r; }",
		"policy p first { permit r; ?; }", "policy p first { permit r on permit log a ?if true; }", "policy p first { permit r if true ?when (case.a = 1); }", "policy p first { permit r on permit log a ?when (case.a = 1); }", "policy p first { permit r if true ?if true; }",
		// Targets.
		"policy p first when?", "policy p first when ?case.a = 1 { }", "policy p first when ?{ }", "policy p first when (?) { }", "policy p first when (case.a = 1?", "policy p first when (case.a = 1 ?{ }", "policy p first when (case.a = 1 ?and (case.a = 1)) { }",
		"policy p first when (case.a = 1) ?or (case.a = 1) { }", "policy p first when (case.a = 1) ?, (case.a = 1) { }", "policy p first when (case.a = 1) ?(case.a = 1) { }", "policy p first when (case.a = 1) and ?case.a = 1 { }", "policy p first when (case.a = 1) and ?and (case.a = 1) { }", "policy p first when (case.a = 1) ?when (case.a = 1) { }",
		"policy p first when (case.a = 1 or ?) { }", "policy p first when (case.a = 1 or ?(case.a = 1)) { }", "policy p first when (case.a = 1, ?) { }", "policy p first when (case.a = 1 ?case.a = 1) { }", "policy p first when (?, case.a = 1) { }", "policy p first when (?(case.a = 1)) { }",
		"policy p first when (case.a ?#b) { }", "policy p first when (case.a ?1) { }", "policy p first when (case.a = ?) { }", "policy p first when (case.a = ?case.a) { }", "policy p first when (case.a = ?(one case.a)) { }", "policy p first when (case.a = ?a) { }", "policy p first when (case.a = ?= 1) { }", "policy p first when (case.a < ?> 1) { }",
		"policy p first when (?1 = case.a) { }", "policy p first when (?true = 1) { }", "policy p first when (case.a! ?! = 1) { }", "policy p first when (case ?= 1) { }", "policy p first when (case ?a = 1) { }", "policy p first when (case ?! .a = 1) { }", "policy p first when (case.?= 1) { }", "policy p first when (case.?#a = 1) { }", "policy p first when (case.a?.b = 1) { }", "policy p first when (?cases.a = 1) { }", "policy p first when (?#case.a = 1) { }", `policy p first when (case?"."a = 1) { }`, `policy p first when (case.a ?"=" 1) { }`,
		// Conditions.
		"policy p first { permit r if?", "policy p first { permit r if ?; }", "policy p first { permit r if ?on permit log a; }", "policy p first { permit r if ?r; }", "policy p first { permit r if (?); }", "policy p first { permit r if ?eq 1 1; }", "policy p first { permit r if true ?true; }", "policy p first { permit r if (?true); }",
		"policy p first { permit r if (?neq 1 1); }", "policy p first { permit r if (?#eq 1 1); }", `policy p first { permit r if (?"eq" 1 1); }`, "policy p first { permit r if (?(eq 1 1)); }", "policy p first { permit r if (?1); }", "policy p first { permit r if (?if 1); }", "policy p first { permit r if (?case.a); }",
		"policy p first { permit r if (eq ?); }", "policy p first { permit r if (eq 1 ?); }", "policy p first { permit r if (eq 1 1 ?1); }", "policy p first { permit r if (eq 1?, 1); }", "policy p first { permit r if (not ?); }", "policy p first { permit r if (not 1 ?1); }", "policy p first { permit r if (not 1?; }", "policy p first { permit r if (one ?); }", "policy p first { permit r if (one case.a ?case.a); }", "policy p first { permit r if (one case.a ?1); }", "policy p first { permit r if (size case.a?", "policy p first { permit r if (has case.a ?); }", "policy p first { permit r if (has case.a 1 ?1); }", "policy p first { permit r if (one case.?); }", "policy p first { permit r if (one case?); }", "policy p first { permit r if (one case.a! ?!); }", "policy p first { permit r if (eq 1 ?eq); }",
		// Duties.
		"policy p first { } on?", "policy p first { } on ?log a", "policy p first { } on ?true log a", "policy p first { } on ?#permit log a", "policy p first { } on deny?", "policy p first { } on deny ?a", "policy p first { } on deny ?deny log a", `policy p first { } on deny ?"log" a`, "policy p first { } on deny log?", "policy p first { } on deny log ?#a", "policy p first { } on deny log ?1", `policy p first { } on deny log ?"a"`, "policy p first { } on deny log a ?b", "policy p first { } on deny log a ?, log b", "policy p first { permit r on deny log ?; }", "policy p first { permit r on ?; }", "policy p first { permit r on deny ?; }",
	} {
		wrong(t, s)
	}
}

// changed asks of each token missing, another one in its place, one too many ahead of it, and of the end behind it; of each of them there is one that may be.
func changed(t *testing.T, l []string) {
	t.Helper()
	for i := range len(l) + 1 {
		agrees(t, l[:i])
		for _, w := range all() {
			agrees(t, slices.Insert(slices.Clone(l), i, w))
		}
		if i == len(l) {
			return
		}
		agrees(t, slices.Delete(slices.Clone(l), i, i+1))
		for _, w := range all() {
			c := slices.Clone(l)
			c[i] = w
			agrees(t, c)
		}
	}
}

func TestEachTokenChanged(t *testing.T) {
	for _, s := range []string{
		rich,
		"policy p denyover { }",
		"policy p denyover { permit r if (eq (one case.owner) #ann); }",
		"set p only { set q only { } policy r permitover { deny t when (env.a! > false) if (or (and true false) (mul 1 (sub 2 (add 3 4)))) on permit redact b; } } on deny notify c",
	} {
		l := parts(strings.ReplaceAll(s, "\t", " "))
		if !agrees(t, l) {
			t.Fatalf("%q may be", s)
		}
		changed(t, l)
	}
}

// Each token missing, changed, too many, exchanged with the next one; then a second one; and a third.
func TestMixedFaults(t *testing.T) {
	var x uint64 = 9
	words := all()
	refusals, answers := 0, 0
	for i := range 2000 {
		m := newMaker(uint64(i) << 20)
		l := written(m.policy(1))
		for range 3 {
			at := next(&x, len(l))
			switch next(&x, 4) {
			case 0:
				l = slices.Delete(l, at, at+1)
			case 1:
				l = slices.Insert(l, at, words[next(&x, len(words))])
			case 2:
				l[at] = words[next(&x, len(words))]
			default:
				l[at], l[len(l)-1-at] = l[len(l)-1-at], l[at]
			}
			if len(l) == 0 || len(strings.Join(l, " "))+1 > maxPolicy {
				break
			}
			if agrees(t, l) {
				answers++
			} else {
				refusals++
			}
		}
	}
	if answers < 100 || refusals < 1000 {
		t.Fatalf("%d answers, %d refusals", answers, refusals)
	}
}

// rows asks of each row of n tokens of these ahead of and behind others.
func rows(t *testing.T, ahead, behind string, n int, these ...string) {
	t.Helper()
	a, b := parts(ahead), parts(behind)
	l := slices.Concat(a, make([]string, n), b)
	var fill func(i int)
	fill = func(i int) {
		if i == n {
			agrees(t, l)
			return
		}
		for _, w := range these {
			l[len(a)+i] = w
			fill(i + 1)
		}
	}
	fill(0)
}

func TestShortRows(t *testing.T) {
	for n := range 3 {
		rows(t, "", "", n, all()...)
		rows(t, "policy p first", "", n, all()...)
		rows(t, "policy p first", "{ }", n, all()...)
		rows(t, "policy p first when (", "", n, all()...)
		rows(t, "policy p first {", "}", n, all()...)
		rows(t, "set p first {", "}", n, all()...)
		rows(t, "policy p first { permit r", "; }", n, all()...)
		rows(t, "policy p first { permit r if", "; }", n, all()...)
		rows(t, "policy p first { permit r if (", "; }", n, all()...)
		rows(t, "policy p first { } on", "", n, all()...)
		rows(t, "policy p first { }", "", n, all()...)
	}
	for n := range 7 {
		rows(t, "policy p first when (case.a = 1", "{ }", n, ")", "(", "and", "or", ",")
		rows(t, "policy p first { permit r if", "; }", n, "(", ")", "one", "eq", "1")
		rows(t, "policy p first when (", "= 1) { }", n, "case", ".", "!", "a")
		rows(t, "set p first", "", n, "{", "}", "set", "first", "a")
		rows(t, "policy p first {", "}", n, "permit", "r", "if", "true", ";")
		rows(t, "policy p first { permit r", "; }", n, "on", "deny", "log", "a")
	}
}

// P9.2: lex's errors

func TestLexFaults(t *testing.T) {
	for _, s := range []string{
		"?\x00", "?A", "policy p first { } ?_", "policy ?P first { }", "policy p first { }\n?\t", "policy p first { } ?abcdefghijklmnopq", "?abcdefghijklmnopq p first { }",
		"policy p first { permit r if ?01; }", "policy p first { permit r if ?-0; }", "policy p first { permit r if ?-; }", "policy p first { permit r if ?9223372036854775808; }", "policy p first { permit r if ?-9223372036854775809; }",
		"policy p first { permit r if ?@; }", "policy p first { permit r if ?@01; }", "policy p first { permit r if ?@1099511627777; }", "policy p first { permit r if ?#; }", "policy p first { permit r if ?#A; }", "policy p first { permit r if ?#abcdefghijklmnopq; }",
		`policy p first { permit r if ?"; }`, `policy p first { permit r if ?"\41"; }`, `policy p first { permit r if ?"` + strings.Repeat("a", maxText+1) + `"; }`, "policy p first { permit r if ?\"\n\"; }",
		"policy p first { permit r if ?|; }", "policy p first { permit r if 1 ?+ 1; }", "policy p first when (case.a ?' 1) { }", "policy p first { } ?\xc3\xa4", "policy p first { } ?*",
		// All of a text is parted ahead of reading: a fault that stands behind others is told all the same.
		"} } ?A", "policy p first { permit r if case.x; } ?A", "policy p only { } ?\"", "1 2 3 ?01", "policy policy policy ?%",
	} {
		before, behind, _ := strings.Cut(s, "?")
		refused(t, before+behind, api.ErrSyntax, len(before))
		refused(t, " "+before+behind, api.ErrSyntax, len(before)+1)
		refused(t, before+behind+strings.Repeat(" ", maxPolicy), api.ErrLimit, maxPolicy)
	}
	refused(t, strings.Repeat("(not ", maxPolicy), api.ErrLimit, maxPolicy)
	refused(t, strings.Repeat(" ", maxPolicy+1), api.ErrLimit, maxPolicy)
	refused(t, strings.Repeat(" ", maxPolicy), api.ErrSyntax, maxPolicy)
}

// P9.2: bags and values

// cond puts a condition where it must stand, be it right or not.
func cond(s string) string { return "policy p first { permit r if " + s + " ; }" }

func TestBags(t *testing.T) {
	for _, bag := range []string{"case.a", "subject.one!", "env.true"} {
		wrong(t, cond("?"+bag))
		wrong(t, cond("(not ?"+bag+")"))
		wrong(t, cond("(has "+bag+" ?"+bag+")"))
		wrong(t, cond("(one "+bag+" ?"+bag+")"))
		fine(t, cond("(one "+bag+")"))
		fine(t, cond("(has "+bag+" (size "+bag+"))"))
		for _, w := range []string{"eq", "less", "add", "sub", "mul", "and", "or"} {
			wrong(t, cond("("+w+" ?"+bag+" 1)"))
			wrong(t, cond("("+w+" 1 ?"+bag+")"))
			wrong(t, cond("("+w+" ?"+bag+" "+bag+")"))
			wrong(t, cond("("+w+" ?"+bag))
			wrong(t, cond("("+w+" 1 ?"+bag+" 1"))
			wrong(t, cond("(not (not ("+w+" (one "+bag+") ?"+bag+")))"))
			fine(t, cond("("+w+" (one "+bag+") (size "+bag+"))"))
		}
	}
	for _, v := range []string{"1", "@1", "#a", `"case"`, "true", "(one case.a)", "(not true)", "(has case.a 1)", "(add 1 (sub 2 3))"} {
		for _, w := range []string{"one", "size"} {
			wrong(t, cond("("+w+" ?"+v+")"))
			wrong(t, cond("("+w+" ?"+v))
			wrong(t, cond("("+w+" ?"+v+" "+v+")"))
			wrong(t, cond("(eq ("+w+" ?"+v+") case.a)"))
		}
		wrong(t, cond("(has ?"+v+" "+v+")"))
		wrong(t, cond("(has ?"+v+" case.a)"))
		wrong(t, cond("(has ?"+v+")"))
		wrong(t, cond("(has (has ?"+v+" 1) 1)"))
		fine(t, cond("(eq "+v+" "+v+")"))
		fine(t, cond(v))
	}
}

// As soon as it was read: what stands behind it isn't looked at, what stands within it comes first.
func TestWhenBagsAreTold(t *testing.T) {
	for _, s := range []string{
		"?case.a case.b", "?case.a!!", "?case.a.b", "?case.a }", "?case.a", "case?", "case.?", "case ?a", "case.?1", "case?!",
		"(eq ?case.a ;", "(eq ?case.a !", "(eq case.?; 1", "(eq case?! .a 1",
		"(one ?1 1", "(one ?(one case.a) ;", "(one (one ?1) 1)", "(one (one case.?))", "(one (one case.a ?1))", "(one (?none case.a))", "(one (not ?case.a))", "(size ?(not 1) 1)", "(has ?(not 1) ;", "(has (not 1 ?; 1)", "(one (not 1 ?1))", "(one (has case.a ?case.b) 1)",
		"(eq (eq ?case.a case.b) case.c)", "(not (one (one ?1)))",
	} {
		wrong(t, cond(s))
	}
}

// P9.3

func TestWhatOnlyAllOfItTells(t *testing.T) {
	for _, s := range []string{
		"policy p only { }", "policy p only { permit r; }", "set s first { policy p only { } }", "set s only { set q only { policy p only { } } }", "set s first { policy p first { } policy q only { } }",
		"policy p first { permit p; }", "policy p first { permit r; deny r; }", "policy p first { permit r; deny q; permit r; }", "set s first { policy s first { } }", "set s first { policy p first { } policy p first { } }", "set s first { policy p first { permit s; } }",
		"set s first { policy p first { permit r; } policy q first { permit r; } }", "set s first { policy p first { permit q; } policy q first { } }", "set s first { set t first { set u first { policy s first { } } } }", "set s first { set a first { policy b first { deny c; } } set d first { policy e first { deny c; } } }",
		"policy p only when (case.a = 1) { permit p if true; }",
	} {
		for _, blanks := range []string{"", " ", "\n \n", " on deny log a", " on deny log a "} {
			wrong(t, s+blanks+"?")
		}
		// What is read comes first, be it as far behind as may be.
		wrong(t, s+" ?}")
		wrong(t, s+" on deny log ?1")
		wrong(t, s+" on deny log a ?, ")
		limited(t, s+strings.Repeat(" on deny log a", maxObls+1)+" ?")
		limited(t, s+strings.Repeat(" on deny log a", maxObls+1)+" ?}")
	}
	for _, s := range []string{
		"set p only { }", "policy p first { permit q; } on permit log p", "policy p first when (case.p = #p) { deny r on deny log r on deny log r; }",
		"set s first { policy p first { permit pp; permit p_; permit p1; } policy q first { } }",
	} {
		fine(t, s)
	}
}

// Wrong in two ways: the first one that is come upon

// Slots stand in the order in which one comes upon them: what is right there, and what is wrong, with ? at the place.
var slots = []struct {
	right string
	wrong []string
	want  api.Errno
}{
	{"set", []string{"?1", "?permit"}, api.ErrSyntax},
	{"s", []string{"?1", "?{"}, api.ErrSyntax},
	{"only", []string{"?none", "?when"}, api.ErrSyntax},
	{"when (case.a = 1", []string{"when ?case.a = 1", "when (case.a ?1", "?if (case.a = 1"}, api.ErrSyntax},
	{", case.a = 1", []string{strings.Repeat(", case.a = 1", maxMatch) + "?"}, api.ErrLimit},
	{"or case.a = 1", []string{strings.Repeat("or case.a = 1 ", maxMatch) + "?"}, api.ErrLimit},
	{")", []string{"?;", "?}"}, api.ErrSyntax},
	{"and (case.a = 1)", []string{strings.Repeat("and (case.a = 1) ", maxMatch) + "?"}, api.ErrLimit},
	{"{ set t first {", []string{"{ set t first { set u first { set v first { ?set w first {"}, api.ErrLimit},
	{"policy p denyover", []string{"policy p ?over", "?deny p denyover", "policy ?! denyover"}, api.ErrSyntax},
	{"{", []string{"?}", "?;"}, api.ErrSyntax},
	{"permit r", []string{"permit ?;", "?on"}, api.ErrSyntax},
	{"if (not true)", []string{"if ?case.a", "if (not ?case.a)", "if (one ?(not 1))", "if (eq 1 ?case.a)"}, api.ErrSyntax},
	{"on permit log a", []string{strings.Repeat("on permit log a ", maxObls+1) + "?"}, api.ErrLimit},
	{"; permit q if true", []string{"; permit q if " + strings.Repeat("(not ", maxExpr) + "true" + strings.Repeat(")", maxExpr) + "?"}, api.ErrLimit},
	{";", []string{"?}", "?true"}, api.ErrSyntax},
	{"deny u;", []string{strings.Repeat("deny u; ", maxKids-2) + "?deny u;"}, api.ErrLimit},
	{"} on deny log a", []string{"} on deny ?a", "} on ?log a"}, api.ErrSyntax},
	{"} } on deny log a", []string{"} } ?{", "} } on deny log a ?)", "} }?;"}, api.ErrSyntax},
}

func TestTheFirstFaultIsTold(t *testing.T) {
	put := func(faults map[int]int) string {
		var b strings.Builder
		told := false
		for i, slot := range slots {
			s := slot.right
			if k, ok := faults[i]; ok {
				s = slot.wrong[k]
			}
			if told {
				s = strings.ReplaceAll(s, "?", "")
			}
			told = told || strings.Contains(s, "?")
			b.WriteString(" " + s)
		}
		return b.String()
	}
	fine(t, put(nil))
	for i, a := range slots {
		for k := range a.wrong {
			at(t, put(map[int]int{i: k}), a.want)
			for j := i + 1; j < len(slots); j++ {
				for n := range slots[j].wrong {
					at(t, put(map[int]int{i: k, j: n}), a.want)
				}
			}
		}
	}
	var x uint64 = 3
	for range 3000 {
		faults, first := map[int]int{}, -1
		for i, slot := range slots {
			if next(&x, 6) == 0 {
				faults[i] = next(&x, len(slot.wrong))
				if first < 0 {
					first = i
				}
			}
		}
		if first >= 0 {
			at(t, put(faults), slots[first].want)
		}
	}
}

// R1: texts of whatever tokens, as deep as they get, and of whatever bytes.
func TestEveryCallEnds(t *testing.T) {
	for _, s := range []string{"(not ", "(eq ", "(one ", "set s first {", "(", "permit r ", "and(", "case.a,", "{", "}", "\x00", "\xff", "policy p first{", "on permit log a", "!", "-", `"`, `\`} {
		for _, ahead := range []string{"", "policy p first { permit r if ", "set s first { ", "policy p first when (", "policy p first {"} {
			long := ahead + strings.Repeat(s, maxPolicy/len(s))
			for _, text := range []string{long[:maxPolicy-maxPolicy%7], long[:maxPolicy/2], long[:min(len(long), maxPolicy)], long + s} {
				if p, err, at := parse.Policy(text); err == api.OK || p.Id != "" || at < 0 || at > len(text) {
					t.Fatalf("%.30q...: %+v, error %d at %d", text, p, err, at)
				}
			}
		}
	}
	var x uint64 = 1
	words := all()
	for range 20000 {
		var b strings.Builder
		for range next(&x, 40) {
			b.WriteString(words[next(&x, len(words))] + []string{"", " "}[next(&x, 2)])
		}
		parse.Policy(b.String())
		bytes := make([]byte, next(&x, 40))
		for i := range bytes {
			bytes[i] = byte(next(&x, 256))
		}
		parse.Policy(string(bytes))
	}
}
