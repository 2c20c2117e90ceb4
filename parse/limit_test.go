package parse_test

import (
	"strconv"
	"strings"
	"testing"
)

// P9.2: one more than may be

const match = "case.a = 1"

// times repeats with something between.
func times(n int, s, between string) string {
	return strings.TrimSuffix(strings.Repeat(s+between, n), between)
}

// after are what may stand behind the one too many, most of which may not: it isn't looked at.
var after = []string{"", ";", "}", ")", "1", "a", "! !", "case", "("}

// everywhere asks of a target in each place where one may be.
func everywhere(t *testing.T, ask func(t *testing.T, s string), target string) {
	t.Helper()
	ask(t, "policy p first when "+target+" { }")
	ask(t, "set p first when "+target+" { }")
	ask(t, "set p first { policy q first when "+target+" { } }")
	ask(t, "policy p first { deny a when (case.b = 2) if true; permit r when "+target+" if true; }")
}

func canBe(t *testing.T, s string) {
	t.Helper()
	fine(t, s)
}

func TestMatches(t *testing.T) {
	for n := 1; n <= maxMatch; n++ {
		everywhere(t, canBe, "("+times(n, match, ", ")+")")
		everywhere(t, canBe, "("+times(n, match, " or ")+")")
		everywhere(t, canBe, times(n, "("+match+")", " and "))
		everywhere(t, canBe, times(2, "("+times(2, times(n, match, ","), " or ")+")", " and "))
		everywhere(t, canBe, times(2, "("+times(n, match+", "+match, " or ")+")", " and "))
	}
	for _, behind := range after {
		everywhere(t, limited, "("+times(maxMatch+1, match, ", ")+" ?"+behind)
		everywhere(t, limited, "("+times(maxMatch+1, match, " or ")+" ?"+behind)
		everywhere(t, limited, times(maxMatch+1, "("+match+")", " and ")+" ?"+behind)
	}
	for ahead := range maxMatch {
		some := strings.Repeat(match+" or ", ahead)
		everywhere(t, limited, "("+some+times(maxMatch+1, match, ", ")+" ?, "+match+")")
		many := strings.Repeat("("+match+") and ", ahead)
		everywhere(t, limited, many+"("+times(maxMatch+1, match, ", ")+" ?)")
		everywhere(t, limited, many+"("+times(maxMatch+1, match, " or ")+" ?or "+match+")")
	}
	everywhere(t, limited, "("+times(maxMatch+1, match, " or ")+" ?)")
	everywhere(t, limited, times(maxMatch+1, "("+match+")", " and ")+" ?and ("+match+")")

	// One too many counts when all of it was read: what is wrong within it comes first.
	everywhere(t, limited, "("+strings.Repeat(match+" or ", maxMatch)+times(maxMatch+1, match, ", ")+" ?, "+match+")")
	everywhere(t, limited, "("+strings.Repeat(match+" or ", maxMatch)+times(maxMatch, match, ", ")+" ?)")
	everywhere(t, limited, strings.Repeat("("+match+") and ", maxMatch)+"("+times(maxMatch, match, " or ")+") ?")
	everywhere(t, limited, strings.Repeat("("+match+") and ", maxMatch)+"("+times(maxMatch+1, match, " or ")+" ?)")
	everywhere(t, wrong, "("+strings.Repeat(match+", ", maxMatch)+"case.a = ?)")
	everywhere(t, wrong, "("+strings.Repeat(match+" or ", maxMatch)+"case.a = 1, ?)")
	everywhere(t, wrong, strings.Repeat("("+match+") and ", maxMatch)+"("+match+" ?;")
	everywhere(t, wrong, strings.Repeat("("+match+") and ", maxMatch)+"("+match+" or ?)")
	everywhere(t, wrong, strings.Repeat("("+match+") and ", maxMatch)+"?{")
}

func TestCountsOfDuties(t *testing.T) {
	for n := range maxObls + 1 {
		s := strings.Repeat(" on permit log a", n)
		fine(t, "policy p first { }"+s)
		fine(t, "set p first { }"+s)
		fine(t, "policy p first { permit r"+s+"; deny q"+s+"; }"+s)
		fine(t, "set s first { policy p first { permit r"+s+"; }"+s+" }"+s)
	}
	many := times(maxObls+1, "on permit log a", " ")
	for _, behind := range append(after, "on permit log a", "on 1") {
		limited(t, "policy p first { } "+many+" ?"+behind)
		limited(t, "set p first { } "+many+" ?"+behind)
		limited(t, "policy p first { permit r "+many+" ?"+behind)
		limited(t, "policy p first { permit q; permit r "+many+" ?"+behind+"; }")
		limited(t, "set s first { policy p first { } "+many+" ?"+behind+" }")
	}
	just := times(maxObls, "on deny notify a", " ")
	wrong(t, "policy p first { } "+just+" on deny notify ?")
	wrong(t, "policy p first { } "+just+" on deny ?on")
	wrong(t, "policy p first { } "+just+" on ?;")
	wrong(t, "policy p first { } "+just+" ?;")
}

// nots is a condition of n nodes.
func nots(n int) string {
	return strings.Repeat("(not ", n-1) + "true" + strings.Repeat(")", n-1)
}

// deep are conditions of n nodes in different shapes.
func deep(n int) []string {
	l := []string{nots(n)}
	if n > 2 {
		l = append(l, strings.Repeat("(not ", n-2)+"(one case.a)"+strings.Repeat(")", n-2))
	}
	if n%2 == 1 {
		l = append(l, strings.Repeat("(add 1 ", n/2)+"2"+strings.Repeat(")", n/2), strings.Repeat("(and ", n/2)+"true"+strings.Repeat(" false)", n/2))
	}
	if n > 3 {
		l = append(l, "(has case.a "+nots(n-2)+")", "(eq "+nots(n-2)+" 1)", "(eq 1 "+nots(n-2)+")")
	}
	return l
}

func TestNodes(t *testing.T) {
	for n := 1; n <= maxExpr; n++ {
		for _, s := range deep(n) {
			p := fine(t, "policy p first { permit r if "+s+"; deny q if "+s+"; }")
			if got := len(p.Rules[0].Cond); got != n || len(p.Rules[1].Cond) != n {
				t.Fatalf("%s: %d nodes, not %d", s, got, n)
			}
		}
	}
	// The node one too many is the last one, which is read behind its bracket.
	for _, s := range deep(maxExpr + 1) {
		for _, behind := range append(after, "on permit log a", "if") {
			limited(t, cond(s+" ?"+behind))
			limited(t, "policy p first { permit q if "+nots(maxExpr)+"; permit r if "+s+" ?"+behind)
		}
		wrong(t, cond(strings.TrimSuffix(s, ")")+" ?"))
		wrong(t, cond(strings.TrimSuffix(s, ")")+" ?1)"))
	}
	// Here it is another one, and what stands behind it isn't looked at.
	for _, behind := range append(after, ") )", "case.a") {
		limited(t, cond("(not (not "+nots(maxExpr)+") ?"+behind))
		limited(t, cond(strings.Repeat("(add 1 ", maxExpr)+"1 ?"+behind))
		limited(t, cond(strings.Repeat("(add 1 ", maxExpr)+`"a" ?`+behind))
		limited(t, cond(strings.Repeat("(add 1 ", maxExpr)+"true ?"+behind))
		limited(t, cond(strings.Repeat("(add 1 ", maxExpr-1)+"(size case.a) ?"+behind))
		limited(t, cond(strings.Repeat("(has case.a ", maxExpr)+"1 ?"+behind))
	}
	wrong(t, cond(strings.Repeat("(add 1 ", maxExpr)+"?)"))
	wrong(t, cond(strings.Repeat("(add 1 ", maxExpr)+"(?1"))
	wrong(t, cond(strings.Repeat("(add 1 ", maxExpr)+"case ?1"))
	wrong(t, cond(strings.Repeat("(add 1 ", maxExpr)+"case.?1"))
}

// A bag that may not be, and one too many: the limit is told, at the token behind it. Of one less the bag is told, at its beginning.
func TestNodesWrongInTwoWays(t *testing.T) {
	adds := func(n int) string { return strings.Repeat("(add 1 ", n) }
	for _, behind := range append(after, ") )", "case.a") {
		if behind != "! !" {
			limited(t, cond(adds(maxExpr)+"case.a ?"+behind))
			wrong(t, cond(adds(maxExpr-1)+"?case.a "+behind))
		}
		limited(t, cond(adds(maxExpr)+"case.a! ?"+behind))
		wrong(t, cond(adds(maxExpr-1)+"?case.a! "+behind))

		// So of what isn't a bag where one must be.
		limited(t, cond(adds(maxExpr)+"(one 1 ?"+behind))
		wrong(t, cond(adds(maxExpr-1)+"(one ?1 "+behind))
		limited(t, cond(adds(maxExpr-1)+"(has (not 1) ?"+behind))
		wrong(t, cond(adds(maxExpr-2)+"(has ?(not 1) "+behind))
	}
	// The bag within comes ahead of the function that would be one too many.
	wrong(t, cond("(not "+strings.Repeat("(not ", maxExpr-1)+"?case.a"+strings.Repeat(")", maxExpr)))
	limited(t, cond(adds(maxExpr)+"case.a ?1"+strings.Repeat(")", maxExpr)))
}

// rulesFrom are n rules of different names, each with a blank ahead.
func rulesFrom(from, n int) string {
	var b strings.Builder
	for i := range n {
		b.WriteString([]string{" permit r", " deny r"}[i%2] + strconv.Itoa(from+i) + ";")
	}
	return b.String()
}

func TestCountsOfRules(t *testing.T) {
	for n := range maxKids + 1 {
		p := fine(t, "policy p first {"+rulesFrom(0, n)+" }")
		if len(p.Rules) != n {
			t.Fatalf("%d rules, not %d", len(p.Rules), n)
		}
	}
	full := rulesFrom(0, maxKids)
	for _, w := range []string{"permit", "deny"} {
		for _, behind := range append(after, " x; }", " r0; }", " x if case.a; }") {
			limited(t, "policy p first {"+full+" ?"+w+" "+behind)
			limited(t, "set s first { policy q first {"+rulesFrom(20, maxKids)+" } policy p first {"+full+" ?"+w+" "+behind)
		}
	}
	wrong(t, "policy p first {"+full+" ?policy")
	wrong(t, "policy p first {"+full+" ?x; }")
	wrong(t, "policy p first {"+full+" ?#permit; }")
	wrong(t, "policy p first {"+strings.TrimSuffix(full, ";")+" ?permit x; }")
}

// policiesOf are policies of so many rules each, with a blank ahead.
func policiesOf(counts ...int) string {
	var b strings.Builder
	for i, n := range counts {
		b.WriteString(" policy p" + strconv.Itoa(i) + " first {" + rulesFrom(100*(i+1), n) + " }")
	}
	return b.String()
}

func TestCountsOfAllRules(t *testing.T) {
	for _, full := range []string{
		policiesOf(16, 16, 16, 16), policiesOf(16, 16, 15, 15, 2), policiesOf(1, 16, 15, 16, 16), policiesOf(7, 8, 9, 10, 11, 12, 7), policiesOf(4, 4, 4, 4, 4, 4, 4, 4, 4, 4, 4, 4, 4, 4),
		" set u first {" + policiesOf(16, 16, 16) + " } policy q first {" + rulesFrom(0, 16) + " }",
		" set u first { set v first {" + policiesOf(16, 16) + " } policy q first {" + rulesFrom(0, 16) + " } } policy w first {" + rulesFrom(30, 16) + " }",
	} {
		full = "set s first {" + full
		if rest := maxAll - strings.Count(full, ";"); rest > 0 {
			full += " policy rest first {" + rulesFrom(2000, rest) + " }"
		}
		fine(t, full+" }")
		fine(t, full+" policy x first { } }")
		for _, w := range []string{"permit", "deny"} {
			for _, behind := range append(after, " x1; }", " r0; }", " x if case.a; }") {
				limited(t, full+" policy x first { ?"+w+" "+behind)
				limited(t, full+" set y first { policy x first { ?"+w+" "+behind)
			}
		}
		wrong(t, full+" policy x first { ?r; }")
		wrong(t, full+" set x first { ?permit r; }")
		wrong(t, full+" ?permit r;")
	}
}

func TestCountsOfKids(t *testing.T) {
	kids := func(n int) string {
		var b strings.Builder
		for i := range n {
			b.WriteString([]string{" policy k", " set k"}[i%2] + strconv.Itoa(i) + " first { }")
		}
		return b.String()
	}
	for n := range maxKids + 1 {
		p := fine(t, "set s first {"+kids(n)+" }")
		if len(p.Kids) != n {
			t.Fatalf("%d kids, not %d", len(p.Kids), n)
		}
		fine(t, "set s first { set t first {"+kids(n)+" } policy p first {"+rulesFrom(0, n)+" } }")
	}
	for _, w := range []string{"policy", "set"} {
		for _, behind := range append(after, " x first { } }", " k0 first { } }", "policy") {
			limited(t, "set s first {"+kids(maxKids)+" ?"+w+" "+behind)
			limited(t, "set s first { policy p first { } set t first {"+kids(maxKids)+" ?"+w+" "+behind)
			limited(t, "set s first { set t first { set u first {"+kids(maxKids)+" ?"+w+" "+behind)
		}
	}
	wrong(t, "set s first {"+kids(maxKids)+" ?permit")
	wrong(t, "set s first {"+kids(maxKids)+" ?x first { } }")
	// A kid of a kid is not one of the set's.
	fine(t, "set s first {"+kids(maxKids-1)+" set t first { set a first { } set b first { } policy c first { } } }")
}

func TestCountsOfDepths(t *testing.T) {
	sets := func(n int) string {
		var b strings.Builder
		for i := range n {
			b.WriteString("set s" + strconv.Itoa(i) + " first { ")
		}
		return b.String()
	}
	for n := 1; n < maxDeep; n++ {
		fine(t, sets(n)+"policy p first { } "+strings.Repeat("} ", n))
		fine(t, sets(n)+"set p first { } "+strings.Repeat("} ", n))
		fine(t, sets(n)+"policy p first { permit r; } set q first { } policy t first { } "+strings.Repeat("} ", n))
	}
	for _, w := range []string{"policy", "set"} {
		for _, behind := range append(after, " p first { } } } } }", " s0 first { } } } } }", w) {
			limited(t, sets(maxDeep)+"?"+w+" "+behind)
			limited(t, sets(1)+"set t first { set u first { set v first { } } } set t1 first { set u1 first { set v1 first { ?"+w+" "+behind)
		}
	}
	wrong(t, sets(maxDeep)+"?permit")
	wrong(t, sets(maxDeep)+"?s first { }")
	wrong(t, sets(maxDeep)+"} } } } ?policy p first { }")
	wrong(t, sets(maxDeep)+"} } } } ?}")
	// How deep the last one stood doesn't count behind it.
	fine(t, sets(maxDeep)+"} set a first { } policy b first { } } policy c first { } } set d first { set e first { policy f first { } } } }")
}
