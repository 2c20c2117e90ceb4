package show_test

import (
	"reflect"
	"strconv"
	"strings"
	"testing"

	"bailiff/api"
	"bailiff/parse"
	"bailiff/policy"
	"bailiff/show"
)

// writes wants just this text of a right policy, and that it is read as that policy, if it is no longer than may be read.
func writes(t *testing.T, want string, p api.Policy) {
	t.Helper()
	if err := policy.Right(p); err != api.OK {
		t.Fatalf("%s: the policy isn't right: error %d", want, err)
	}
	if got := show.Policy(p); got != want {
		t.Fatalf("%q, not %q", got, want)
	}
	q, err, at := parse.Policy(want)
	if len(want) > maxPolicy {
		if err != api.ErrLimit || at != maxPolicy {
			t.Fatalf("%d bytes: error %d at %d", len(want), err, at)
		}
		return
	}
	if err != api.OK || !reflect.DeepEqual(q, p) {
		t.Fatalf("%s: read as %+v, error %d at %d, not as %+v", want, q, err, at, p)
	}
}

func plain(id string, l ...api.Rule) api.Policy {
	return api.Policy{Id: id, Alg: api.FirstApplicable, Rules: l}
}

func set(id string, l ...api.Policy) api.Policy {
	return api.Policy{Id: id, Set: true, Alg: api.FirstApplicable, Kids: l}
}

// small is a match, written as case.a = 1.
func small() api.Match { return api.Match{Attr: attr(api.CCase, "a"), Op: api.MEq, Value: whole(1)} }

func TestRun(t *testing.T) {
	owner := must(api.CCase, "owner")
	target := api.Target{{{{Attr: owner, Op: api.MEq, Value: id("ann")}}, {{Attr: owner, Op: api.MEq, Value: whole(1)}}}}
	writes(t, "policy p denyover { deny r when (case.owner! = #ann or case.owner! = 1) if (not true); } on permit log x", api.Policy{
		Id: "p", Alg: api.DenyOverrides,
		Rules: []api.Rule{{Id: "r", Deny: true, Target: target, Cond: []api.Node{lit(boolean(1)), call(api.NNot)}}},
		Obls:  []api.Obl{{On: 1, Kind: api.OLog, Arg: "x"}},
	})
}

// P10.3

func TestPoliciesAndSets(t *testing.T) {
	target, when := api.Target{{{small()}}}, " when (case.a = 1)"
	obls, on := []api.Obl{{On: 2, Kind: api.ONotify, Arg: "x"}}, " on deny notify x"
	for i, w := range algorithms {
		for _, is := range []string{"policy", "set"} {
			p := api.Policy{Id: "p", Set: is == "set", Alg: i + 1}
			if w == "only" && !p.Set {
				continue
			}
			s := is + " p " + w
			writes(t, s+" { }", p)
			p.Target = target
			writes(t, s+when+" { }", p)
			p.Obls = obls
			writes(t, s+when+" { }"+on, p)
			p.Target = nil
			writes(t, s+" { }"+on, p)
			writes(t, "set s "+w+" { "+s+" { }"+on+" }", api.Policy{Id: "s", Set: true, Alg: i + 1, Kids: []api.Policy{p}})
			if p.Set {
				p.Kids = []api.Policy{plain("q"), set("t")}
				writes(t, s+" { policy q first { } set t first { } }"+on, p)
			} else {
				p.Rules = []api.Rule{{Id: "r"}, {Id: "u", Deny: true}}
				writes(t, s+" { permit r; deny u; }"+on, p)
			}
		}
	}
}

func TestDepths(t *testing.T) {
	log := []api.Obl{{On: 1, Kind: api.OLog, Arg: "z"}}
	p := plain("p", api.Rule{Id: "r"}, api.Rule{Id: "q", Deny: true, Obls: log})
	s := "policy p first { permit r; deny q on permit log z; }"
	for i := range maxDeep - 1 {
		n := strconv.Itoa(i)
		p = set("s"+n, plain("a"+n), p, set("b"+n))
		s = "set s" + n + " first { policy a" + n + " first { } " + s + " set b" + n + " first { } }"
		writes(t, s, p)
		p.Obls = log
		s += " on permit log z"
		writes(t, s, p)
		p.Target = api.Target{{{small()}}}
		s = strings.Replace(s, "first", "first when (case.a = 1)", 1)
		writes(t, s, p)
	}
}

// Whose duties they are shows in where they stand.
func TestDutiesOfEachDepth(t *testing.T) {
	l := []api.Obl{{On: 1, Kind: api.OLog, Arg: "x"}, {On: 2, Kind: api.OLog, Arg: "y"}, {On: 1, Kind: api.ORedact, Arg: "z"}}
	for i := range len(l) + 1 {
		for k := range len(l) + 1 - i {
			rule := api.Rule{Id: "r", Obls: l[:i:i]}
			kid := plain("p", rule)
			kid.Obls = l[i : i+k : i+k]
			p := set("s", kid)
			p.Obls = l[i+k:]
			on := []string{" on permit log x", " on deny log y", " on permit redact z"}
			got := show.Policy(p)
			want := "set s first { policy p first { permit r" + strings.Join(on[:i], "") + "; }" + strings.Join(on[i:i+k], "") + " }" + strings.Join(on[i+k:], "")
			if got != want {
				t.Errorf("%q, not %q", got, want)
			}
		}
	}
}

func TestTargets(t *testing.T) {
	a := api.Match{Attr: attr(api.CSubject, "a"), Op: api.MEq, Value: whole(-1)}
	b := api.Match{Attr: must(api.CAction, "b"), Op: api.MLess, Value: tick(2)}
	c := api.Match{Attr: attr(api.CCase, "c"), Op: api.MMore, Value: text("x y")}
	d := api.Match{Attr: must(api.CEnv, "d"), Op: api.MEq, Value: boolean(0)}
	for _, x := range []shown[api.Target]{
		{api.Target{{{a}}}, "(subject.a = -1)"},
		{api.Target{{{a, b}}}, "(subject.a = -1, action.b! < @2)"},
		{api.Target{{{a, a, a}}}, "(subject.a = -1, subject.a = -1, subject.a = -1)"},
		{api.Target{{{b, c, d, a}}}, `(action.b! < @2, case.c > "x y", env.d! = false, subject.a = -1)`},
		{api.Target{{{a}, {b}}}, "(subject.a = -1 or action.b! < @2)"},
		{api.Target{{{d}, {b}, {c}}}, `(env.d! = false or action.b! < @2 or case.c > "x y")`},
		{api.Target{{{a}}, {{b}}}, "(subject.a = -1) and (action.b! < @2)"},
		{api.Target{{{b}}, {{a}}, {{b}}}, "(action.b! < @2) and (subject.a = -1) and (action.b! < @2)"},
		{api.Target{{{a, b}, {c}}}, `(subject.a = -1, action.b! < @2 or case.c > "x y")`},
		{api.Target{{{a}, {b, c}}}, `(subject.a = -1 or action.b! < @2, case.c > "x y")`},
		{api.Target{{{c, c}, {d}}, {{b, a}}, {{d}, {c}, {a}}}, `(case.c > "x y", case.c > "x y" or env.d! = false) and (action.b! < @2, subject.a = -1) and (env.d! = false or case.c > "x y" or subject.a = -1)`},
	} {
		targets(t, x.want, x.is)
	}
}

// targets asks of a target in each place where one may be.
func targets(t *testing.T, want string, target api.Target) {
	t.Helper()
	p, s := plain("p"), set("s", plain("p"))
	p.Target, s.Target = target, target
	writes(t, "policy p first when "+want+" { }", p)
	writes(t, "set s first when "+want+" { policy p first { } }", s)
	writes(t, "set t first { policy p first when "+want+" { } }", set("t", p))
	writes(t, "policy q first { permit a; deny r when "+want+"; permit b if true; }", plain("q", api.Rule{Id: "a"}, api.Rule{Id: "r", Deny: true, Target: target}, api.Rule{Id: "b", Cond: []api.Node{lit(boolean(1))}}))
}

func TestMatches(t *testing.T) {
	for k, w := range comparisons {
		for i, cat := range categories {
			for _, name := range names() {
				targets(t, "("+cat+"."+name+" "+w+" #"+name+")", api.Target{{{{Attr: attr(i+1, name), Op: k + 1, Value: id(name)}}}})
				targets(t, "("+cat+"."+name+"! "+w+" 1)", api.Target{{{{Attr: must(i+1, name), Op: k + 1, Value: whole(1)}}}})
			}
		}
		for _, v := range values() {
			targets(t, "(case.a "+w+" "+v.want+")", api.Target{{{{Attr: attr(api.CCase, "a"), Op: k + 1, Value: v.is}}}})
			targets(t, "(case.a! "+w+" "+v.want+")", api.Target{{{{Attr: must(api.CCase, "a"), Op: k + 1, Value: v.is}}}})
		}
	}
}

func TestRules(t *testing.T) {
	target := api.Target{{{small()}}, {{small(), small()}}}
	cond := []api.Node{of(attr(api.CEnv, "b")), call(api.NOne)}
	obls := []api.Obl{{On: 1, Kind: api.OLog, Arg: "a"}, {On: 1, Kind: api.OLog, Arg: "a"}}
	for i, effect := range effects {
		for some := range 8 {
			r, s := api.Rule{Id: "r", Deny: i == 1}, effect+" r"
			if some&1 > 0 {
				r.Target, s = target, s+" when (case.a = 1) and (case.a = 1, case.a = 1)"
			}
			if some&2 > 0 {
				r.Cond, s = cond, s+" if (one env.b)"
			}
			if some&4 > 0 {
				r.Obls, s = obls, s+" on permit log a on permit log a"
			}
			writes(t, "policy p first { "+s+"; }", plain("p", r))
			writes(t, "policy p first { deny a; "+s+"; permit b; }", plain("p", api.Rule{Id: "a", Deny: true}, r, api.Rule{Id: "b"}))
		}
	}
}

func TestConditions(t *testing.T) {
	for _, v := range values() {
		writes(t, "policy p first { permit r if "+v.want+"; }", plain("p", api.Rule{Id: "r", Cond: []api.Node{lit(v.is)}}))
	}
	for i := range 300 {
		m := maker{x: uint64(i)}
		l, s := m.expr(maxExpr)
		expr(t, s, l...)
		writes(t, "policy p first { permit r if "+s+" on deny log x; deny q if "+s+"; }", plain("p", api.Rule{Id: "r", Cond: l, Obls: []api.Obl{{On: 2, Kind: api.OLog, Arg: "x"}}}, api.Rule{Id: "q", Deny: true, Cond: l}))
	}
}

func TestDuties(t *testing.T) {
	var row []api.Obl
	long := ""
	for i, on := range effects {
		for k, w := range doings {
			for _, name := range names() {
				o := []api.Obl{{On: i + 1, Kind: k + 1, Arg: name}}
				s := " on " + on + " " + w + " " + name
				p, q := plain("p"), set("q")
				p.Obls, q.Obls = o, o
				writes(t, "policy p first { }"+s, p)
				writes(t, "set q first { }"+s, q)
				writes(t, "policy p first { permit r"+s+"; }", plain("p", api.Rule{Id: "r", Obls: o}))
				writes(t, "policy p first { deny r if 1"+s+"; permit u; }", plain("p", api.Rule{Id: "r", Deny: true, Cond: []api.Node{lit(whole(1))}, Obls: o}, api.Rule{Id: "u"}))
			}
			row = append(row, api.Obl{On: i + 1, Kind: k + 1, Arg: "on"})
			long += " on " + on + " " + w + " on"
		}
	}
	p := plain("p", api.Rule{Id: "r", Obls: row})
	p.Obls = row
	s := set("s", p)
	s.Obls = row
	writes(t, "set s first { policy p first { permit r"+long+"; }"+long+" }"+long, s)
}

func TestWordsAsNames(t *testing.T) {
	for _, w := range names() {
		writes(t, "policy "+w+" first { permit r1; }", plain(w, api.Rule{Id: "r1"}))
		writes(t, "policy p1 first { deny "+w+"; }", plain("p1", api.Rule{Id: w, Deny: true}))
		writes(t, "set "+w+" first { set p1 first { } }", set(w, set("p1")))
		writes(t, "set s1 first { policy "+w+" first { } }", set("s1", plain(w)))
	}
}

// Mixed policies, written as they are made.
func TestMixedPolicies(t *testing.T) {
	short, far := 0, 0
	for i := range 2000 {
		m := maker{x: uint64(i)}
		p, want := m.policy(1)
		writes(t, want, p)
		if len(want) > maxPolicy {
			far++
		} else {
			short++
		}
	}
	if short < 1000 || far < 20 {
		t.Fatalf("%d short ones, %d long ones", short, far)
	}
}
