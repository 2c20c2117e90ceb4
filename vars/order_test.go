package vars_test

import (
	"slices"
	"strconv"
	"strings"
	"testing"

	"bailiff/api"
	"bailiff/policy"
)

// P15.1: which atoms there are, each once, and in which order

// writes asks for the atoms of a policy's text, which are written as they are there.
func writes(t *testing.T, s string, want ...string) {
	t.Helper()
	if got := allTold(atoms(t, read(t, s))); got != strings.Join(want, "; ") {
		t.Fatalf("%s: %s, not %s", s, got, strings.Join(want, "; "))
	}
}

func TestRun(t *testing.T) {
	p := read(t, "policy p first when (case.x = 1) { permit r when (case.x = 1) if true; deny d if true; }")
	lists(t, "the chapter's run", p, ofMatch(asks(api.MEq, whole(1))), ofCond(lit(boolean(1))))
}

func TestPoliciesThatAskNothing(t *testing.T) {
	writes(t, "policy p first { }")
	writes(t, "set s only { }")
	writes(t, "policy p denyover { permit r; deny d on deny log x; } on permit review y")
	writes(t, "set a first { set b first { set c first { policy d first { permit r; } policy e first { } } } }")
	lists(t, "empty lists", api.Policy{Id: "p", Alg: api.DenyUnless, Target: api.Target{}, Rules: []api.Rule{{Id: "r", Target: api.Target{}, Cond: []api.Node{}}}})
}

func TestTargets(t *testing.T) {
	writes(t, "policy p first when (case.b = 1) { }", "case.b = 1")
	writes(t, "policy p first when (case.b = 1, case.a = 1) { }", "case.b = 1", "case.a = 1")
	writes(t, "policy p first when (case.b = 1 or case.a = 1) { }", "case.b = 1", "case.a = 1")
	writes(t, "policy p first when (case.b = 1) and (case.a = 1) { }", "case.b = 1", "case.a = 1")
	writes(t, "policy p first when (case.f = 1, case.e = 1 or case.d = 1) and (case.c = 1 or case.b = 1, case.a = 1) { }",
		"case.f = 1", "case.e = 1", "case.d = 1", "case.c = 1", "case.b = 1", "case.a = 1")
	writes(t, "policy p first when (env.x > @5, case.x! < \"a\" or subject.role = #judge) and (action.x = true) { }",
		"env.x > @5", `case.x! < "a"`, "subject.role = #judge", "action.x = true")
	writes(t, "policy p first when (case.b = 1, case.b = 1 or case.b = 1) and (case.a = 1 or case.b = 1, case.a = 1) and (case.b = 1) { }", "case.b = 1", "case.a = 1")
}

func TestRules(t *testing.T) {
	writes(t, "policy p first { permit r when (case.x = 1); }", "case.x = 1")
	writes(t, "policy p first { permit r if false; }", "false")
	writes(t, "policy p first { permit r when (case.x = 1) if (has case.x 1); }", "case.x = 1", "(has case.x 1)")
	writes(t, "policy p first when (case.x = 3) { permit r when (case.x = 2) if (not false); deny d; deny e if 1; permit q when (case.x = 1, case.x = 3); }",
		"case.x = 3", "case.x = 2", "(not false)", "1", "case.x = 1")
	// A condition is asked as a whole: its parts are no atoms.
	writes(t, "policy p first { permit r if (and (has case.x 1) (has case.y 1)); deny d if (has case.x 1); deny e if (and (has case.x 1) (has case.y 1)); }",
		"(and (has case.x 1) (has case.y 1))", "(has case.x 1)")
}

func TestSets(t *testing.T) {
	writes(t, "set s only when (case.x = 9) { policy p first when (case.x = 8) { permit r when (case.x = 7) if 6; } policy q first when (case.x = 5) { permit u if 4; } }",
		"case.x = 9", "case.x = 8", "case.x = 7", "6", "case.x = 5", "4")
	// All of a kid ahead of the next one, however deep it goes.
	writes(t, "set s first { set a first when (case.x = 9) { set b first when (case.x = 8) { policy c first when (case.x = 7) { } } policy d first when (case.x = 6) { } } policy e first when (case.x = 5) { } }",
		"case.x = 9", "case.x = 8", "case.x = 7", "case.x = 6", "case.x = 5")
	writes(t, "set s first when (case.x = 1) { policy p first when (case.x = 2) { deny r when (case.x = 1) if true; } policy q first when (case.x = 2, case.x = 3) { deny u if true; } }",
		"case.x = 1", "case.x = 2", "true", "case.x = 3")
	// Duties ask nothing.
	writes(t, "set s first { policy p first { permit r on permit log x; } on permit log x } on deny notify y")
}

// M stands where a match may, C where a condition may: in each kind of place, first and last ones among them, as deep as may be.
const places = "set a first when (M or M, M) and (M, M or M) { " +
	"policy b denyover when (M) { permit c when (M) if C; deny d if C; permit e; deny f when (M, M) and (M); permit g if C; } " +
	"set h only when (M) and (M) { set i first { policy j first { permit k when (M) if C; } policy l first when (M) { deny m when (M) if C; } } } " +
	"policy n permitunless when (M) { permit o if C; deny p when (M or M); } }"

// filled puts at each place what stands there in l, in order. As a text is read, so are its atoms come upon.
func filled(t *testing.T, l []string) api.Policy {
	t.Helper()
	var s strings.Builder
	for _, c := range places {
		if c != 'M' && c != 'C' {
			s.WriteRune(c)
			continue
		}
		s.WriteString(l[0])
		l = l[1:]
	}
	return read(t, s.String())
}

// kinds are M and C, as they stand there.
func kinds() string {
	return strings.Map(func(c rune) rune {
		if c == 'M' || c == 'C' {
			return c
		}
		return -1
	}, places)
}

// atomAt is of the kind, and has the number.
func atomAt(kind byte, n int) string {
	if kind == 'M' {
		return "case.x = " + strconv.Itoa(n)
	}
	return strconv.Itoa(n)
}

// onceWritten leaves of each text only the first.
func onceWritten(l []string) string {
	var out []string
	for _, s := range l {
		if !slices.Contains(out, s) {
			out = append(out, s)
		}
	}
	return strings.Join(out, "; ")
}

// Each place by itself, and the same in each two of them: it is listed where one first comes upon it.
func TestEachPlace(t *testing.T) {
	kinds := kinds()
	var l []string
	for i := range len(kinds) {
		l = append(l, atomAt(kinds[i], len(kinds)-i))
	}
	if got := allTold(atoms(t, filled(t, l))); got != strings.Join(l, "; ") {
		t.Fatalf("all unlike: %s, not %s", got, strings.Join(l, "; "))
	}
	for i := range l {
		for k := i + 1; k < len(l); k++ {
			if kinds[i] != kinds[k] {
				continue
			}
			two := slices.Clone(l)
			two[k] = l[i]
			if got := allTold(atoms(t, filled(t, two))); got != onceWritten(two) {
				t.Fatalf("the same at %d and %d: %s, not %s", i, k, got, onceWritten(two))
			}
		}
	}
}

// Few atoms at many places.
func TestEachPlaceMixed(t *testing.T) {
	kinds := kinds()
	for i := range 3000 {
		m := maker{x: uint64(i)}
		few := 1 + m.n(12)
		var l []string
		for k := range len(kinds) {
			l = append(l, atomAt(kinds[k], m.n(few)))
		}
		if got := allTold(atoms(t, filled(t, l))); got != onceWritten(l) {
			t.Fatalf("%s, not %s", got, onceWritten(l))
		}
	}
}

// A target as full as may be: each of its places, in order.
func TestFullTargets(t *testing.T) {
	for _, few := range []int{1, 2, 7, 63, maxVars} {
		var target api.Target
		var want []api.Atom
		for i := range maxMatch * maxMatch * maxMatch {
			if i%(maxMatch*maxMatch) == 0 {
				target = append(target, nil)
			}
			anyOf := &target[len(target)-1]
			if i%maxMatch == 0 {
				*anyOf = append(*anyOf, nil)
			}
			allOf := &(*anyOf)[len(*anyOf)-1]
			// Squares leave some of them out: the last match of each AllOf is one after the other of all.
			m := asks(api.MEq, whole(i*i%few))
			if i%maxMatch == maxMatch-1 {
				m = asks(api.MEq, whole(i/maxMatch%few))
			}
			*allOf = append(*allOf, m)
			want = append(want, ofMatch(m))
		}
		want = once(want)
		if len(want) != few {
			t.Fatal(len(want))
		}
		lists(t, "a policy's", api.Policy{Id: "p", Alg: 1, Target: target}, want...)
		lists(t, "a set's", api.Policy{Id: "p", Alg: 1, Set: true, Target: target}, want...)
		lists(t, "a rule's", api.Policy{Id: "p", Alg: 1, Rules: []api.Rule{{Id: "r", Target: target}}}, want...)
	}
}

// What a policy is called, what it does with what it asks, and whom it owes say nothing of what it asks.
func TestWhatAsksNothing(t *testing.T) {
	for i := range 2000 {
		m := maker{x: uint64(i), room: 3}
		p := m.policy(1+i%maxDeep, 3)
		var other func(p api.Policy) api.Policy
		other = func(p api.Policy) api.Policy {
			p.Id, p.Alg, p.Obls = "o"+p.Id, 1+p.Alg%3, some(m.n(4), m.duty)
			p.Rules, p.Kids = slices.Clone(p.Rules), slices.Clone(p.Kids)
			for i := range p.Rules {
				p.Rules[i].Id, p.Rules[i].Deny, p.Rules[i].Obls = "o"+p.Rules[i].Id, !p.Rules[i].Deny, some(m.n(4), m.duty)
			}
			for i := range p.Kids {
				p.Kids[i] = other(p.Kids[i])
			}
			return p
		}
		lists(t, "another one", other(p), atoms(t, p)...)
	}
}

func TestMixedPolicies(t *testing.T) {
	counts := map[api.Errno]int{}
	many := 0
	for i := range 20000 {
		m := maker{x: uint64(i), room: []int{2, 3, 9, 400}[i%4]}
		p := m.policy(1+i/4%maxDeep, 1+i/16%6)
		want := once(m.asked)
		switch {
		case policy.Right(p) != api.OK:
			// More rules in all than there may be.
			refused(t, "too many rules", p, api.ErrArg)
			counts[api.ErrArg]++
		case len(want) > maxVars:
			refused(t, "mixed", p, api.ErrLimit)
			counts[api.ErrLimit]++
		default:
			lists(t, "mixed", p, want...)
			counts[api.OK]++
			if len(want) > 10 && len(m.asked) > len(want) {
				many++
			}
		}
	}
	if counts[api.OK] < 10000 || counts[api.ErrLimit] < 200 || counts[api.ErrArg] < 20 || many < 500 {
		t.Error(counts, many)
	}
}
