package eval_test

import (
	"reflect"
	"slices"
	"strings"
	"testing"
	"unsafe"

	"bailiff/api"
	"bailiff/eval"
)

// What holds everywhere

// roomBehind is the same list with these in its room.
func roomBehind[T any](l []T, behind ...T) []T { return slices.Concat(l, behind)[:len(l)] }

// Things that lie in the room behind lists: the first ones would count if they were read, the next would be missed if they were written over.

func targetWithRoom(t api.Target) api.Target {
	no := matchOf(0)
	var out api.Target
	for _, anyOf := range t {
		var l [][]api.Match
		for _, allOf := range anyOf {
			l = append(l, roomBehind(allOf, no, api.Match{}))
		}
		out = append(out, roomBehind(l, []api.Match{}, []api.Match{no}))
	}
	return roomBehind(out, [][]api.Match{{no}}, nil)
}

func dutiesWithRoom(l []api.Obl) []api.Obl { return roomBehind(l, dutiesOf("room")...) }

func ruleWithRoom(r api.Rule) api.Rule {
	r.Target, r.Obls = targetWithRoom(r.Target), dutiesWithRoom(r.Obls)
	r.Cond = roomBehind(r.Cond, api.Node{Op: api.NNot}, api.Node{Op: api.NAnd})
	return r
}

func withRoom(p api.Policy) api.Policy {
	p.Target, p.Obls = targetWithRoom(p.Target), dutiesWithRoom(p.Obls)
	var rules []api.Rule
	for _, r := range p.Rules {
		rules = append(rules, ruleWithRoom(r))
	}
	p.Rules = roomBehind(rules, api.Rule{Id: "room1", Obls: dutiesOf("room")}, api.Rule{Id: "room2", Deny: true, Obls: dutiesOf("room")})
	var kids []api.Policy
	for _, kid := range p.Kids {
		kids = append(kids, withRoom(kid))
	}
	p.Kids = roomBehind(kids, plain("room3", api.PermitUnless), plain("room4", api.DenyUnless))
	return p
}

func requestWithRoom(g []api.Given) []api.Given {
	var out []api.Given
	for _, h := range g {
		out = append(out, given(h.Cat, h.Name, roomBehind(h.Bag, whole(0), whole(1), text("a"), api.Value{})...))
	}
	return roomBehind(out, given(api.CCase, "x", whole(1)), given(api.CCase, "xx", whole(1)), given(api.CEnv, "x", text("a")), given(api.CEnv, "xx", whole(1)))
}

// Copies that share nothing with what they are of, and have the room as part of them.

func deepTarget(t api.Target) api.Target {
	out := slices.Clone(t[:cap(t)])
	for i, anyOf := range out {
		out[i] = slices.Clone(anyOf[:cap(anyOf)])
		for k, allOf := range out[i] {
			out[i][k] = slices.Clone(allOf[:cap(allOf)])
		}
	}
	return out
}

func deepRule(r api.Rule) api.Rule {
	r.Target, r.Cond, r.Obls = deepTarget(r.Target), slices.Clone(r.Cond[:cap(r.Cond)]), slices.Clone(r.Obls[:cap(r.Obls)])
	return r
}

func deepPolicy(p api.Policy) api.Policy {
	p.Target, p.Obls = deepTarget(p.Target), slices.Clone(p.Obls[:cap(p.Obls)])
	p.Rules, p.Kids = slices.Clone(p.Rules[:cap(p.Rules)]), slices.Clone(p.Kids[:cap(p.Kids)])
	for i := range p.Rules {
		p.Rules[i] = deepRule(p.Rules[i])
	}
	for i := range p.Kids {
		p.Kids[i] = deepPolicy(p.Kids[i])
	}
	return p
}

func deepRequest(g []api.Given) []api.Given {
	out := slices.Clone(g[:cap(g)])
	for i, h := range out {
		out[i].Bag = slices.Clone(h.Bag[:cap(h.Bag)])
	}
	return out
}

// R2, R5: what is handed in is as it was, and the room behind a list is neither read nor written.
func TestWhatIsHandedInStays(t *testing.T) {
	for i := range 5000 {
		m := maker{x: uint64(i)}
		plainOne, plainRule, g := m.policy(1+i%maxDeep), m.rule(), m.request()
		if i%10 == 0 {
			plainOne.Obls = append(plainOne.Obls, api.Obl{On: 3})
		}
		want, wanted := eval.Policy(plainOne, g)
		ruleWant, duties := eval.Rule(plainRule, g), eval.Duties(plainRule.Obls, api.Permit)

		p, r, with := withRoom(plainOne), ruleWithRoom(plainRule), requestWithRoom(g)
		before, ruleBefore, request := deepPolicy(p), deepRule(r), deepRequest(with)
		for range 2 {
			got, err := eval.Policy(p, with)
			if !same(got, want) || err != wanted {
				t.Fatalf("%+v of %+v: with room %s, error %d, not %s, error %d", plainOne, g, told(got), err, told(want), wanted)
			}
			ruleComes(t, "with room", r, with, ruleWant)
			has(t, "with room", r.Obls, api.Permit, duties...)
		}
		if !reflect.DeepEqual(deepPolicy(p), before) {
			t.Fatalf("%+v is another policy", plainOne)
		}
		if !reflect.DeepEqual(deepRule(r), ruleBefore) {
			t.Fatalf("%+v is another rule", plainRule)
		}
		if !reflect.DeepEqual(deepRequest(with), request) {
			t.Fatalf("%+v is another request", g)
		}
	}
}

// spoil writes into all that belongs to a list, its room too.
func spoil(l []api.Obl) {
	l = l[:cap(l)]
	for i := range l {
		l[i] = api.Obl{On: 1 + i%2, Kind: 77, Arg: "spoilt"}
	}
}

func spoilPolicy(p api.Policy) {
	spoil(p.Obls)
	for i := range p.Rules {
		spoil(p.Rules[i].Obls)
		p.Rules[i] = api.Rule{Id: "spoilt"}
	}
	for i := range p.Kids {
		spoilPolicy(p.Kids[i])
		p.Kids[i] = api.Policy{Id: "spoilt"}
	}
}

// R2: who writes into an answer changes neither the policy nor another answer, and the other way round.
func TestAnswersAreNewMemory(t *testing.T) {
	some := 0
	for i := range 5000 {
		m := maker{x: uint64(i)}
		p, r, g := withRoom(m.policy(1+i%maxDeep)), ruleWithRoom(m.rule()), m.request()
		before, ruleBefore := deepPolicy(p), deepRule(r)
		want, ruleWant, duties := decided(t, p, g), eval.Rule(r, g), eval.Duties(r.Obls, api.Deny)
		want.Obls, ruleWant.Obls, duties = slices.Clone(want.Obls), slices.Clone(ruleWant.Obls), slices.Clone(duties)
		some += times(len(want.Obls) > 0 && len(ruleWant.Obls) > 0 && len(duties) > 0)

		first, ruleFirst, dutiesFirst := decided(t, p, g), eval.Rule(r, g), eval.Duties(r.Obls, api.Deny)
		spoil(decided(t, p, g).Obls)
		spoil(eval.Rule(r, g).Obls)
		spoil(eval.Duties(r.Obls, api.Deny))
		if !reflect.DeepEqual(deepPolicy(p), before) || !reflect.DeepEqual(deepRule(r), ruleBefore) {
			t.Fatalf("%+v, %+v: written into by an answer", before, ruleBefore)
		}
		second, ruleSecond, dutiesSecond := decided(t, p, g), eval.Rule(r, g), eval.Duties(r.Obls, api.Deny)
		spoilPolicy(p)
		spoilPolicy(api.Policy{Rules: []api.Rule{r}})
		if !same(first, want) || !same(second, want) {
			t.Fatalf("%s, %s: not %s", told(first), told(second), told(want))
		}
		if !same(ruleFirst, ruleWant) || !same(ruleSecond, ruleWant) || !slices.Equal(dutiesFirst, duties) || !slices.Equal(dutiesSecond, duties) {
			t.Fatalf("%s, %s, %+v, %+v: not %s, %+v", told(ruleFirst), told(ruleSecond), dutiesFirst, dutiesSecond, told(ruleWant), duties)
		}
	}
	if some < 100 {
		t.Error(some)
	}
}

// R2: texts are no more kept than lists.
func TestTextsAreNotKept(t *testing.T) {
	shared := []byte("log_it")
	arg := unsafe.String(&shared[0], len(shared))
	l := []api.Obl{{On: 1, Kind: api.OLog, Arg: arg}, {On: 2, Kind: api.OLog, Arg: arg}}
	p := set("s", api.PermitUnless, api.Policy{Id: "p", Alg: api.DenyUnless, Rules: []api.Rule{{Id: "r", Obls: l}}, Obls: l})
	p.Obls = l
	got := [][]api.Obl{decided(t, p, nil).Obls, eval.Rule(api.Rule{Obls: l}, nil).Obls, eval.Duties(l, api.Deny)}
	copy(shared, "??????")
	for i, n := range []int{3, 1, 1} {
		if len(got[i]) != n {
			t.Errorf("%+v", got[i])
		}
		for _, o := range got[i] {
			if o.Arg != "log_it" {
				t.Errorf("%+v", got[i])
			}
		}
	}
}

// emptied has an empty list wherever there is none.
func emptied(p api.Policy) api.Policy {
	p.Target, p.Obls = append(api.Target{}, p.Target...), append([]api.Obl{}, p.Obls...)
	p.Rules, p.Kids = append([]api.Rule{}, p.Rules...), append([]api.Policy{}, p.Kids...)
	for i, r := range p.Rules {
		r.Target, r.Obls, r.Cond = append(api.Target{}, r.Target...), append([]api.Obl{}, r.Obls...), append([]api.Node{}, r.Cond...)
		p.Rules[i] = r
	}
	for i := range p.Kids {
		p.Kids[i] = emptied(p.Kids[i])
	}
	return p
}

// R4: nil and empty lists mean the same.
func TestEmptyLists(t *testing.T) {
	for i := range 5000 {
		m := maker{x: uint64(i)}
		p, g := m.policy(1+i%maxDeep), m.request()
		want := decided(t, p, g)
		comes(t, "empty lists", emptied(p), g, want)
		for _, r := range emptied(p).Rules {
			ruleComes(t, "empty lists", r, g, ruleByTheWords(r, g))
		}
		comes(t, "no request", p, []api.Given{}, decided(t, p, nil))
	}
}

// R4, R8: what was asked before says nothing of what is asked now.
func TestNothingIsKept(t *testing.T) {
	p := read(t, "policy p denyover { permit r on permit log a; deny d when (case.x = 1) on deny notify b; } on permit review c")
	g := x(whole(2))
	comes(t, "not denied", p, g, api.Result{Mark: api.Permit, Obls: []api.Obl{{On: 1, Kind: api.OLog, Arg: "a"}, {On: 1, Kind: api.OReview, Arg: "c"}}})
	g[0].Bag[0] = whole(1)
	comes(t, "denied now", p, g, api.Result{Mark: api.Deny, Obls: []api.Obl{{On: 2, Kind: api.ONotify, Arg: "b"}}})
	g[0].Bag[0] = text("a")
	comes(t, "not known now", p, g, api.Result{Mark: api.IndetDP})
	p.Rules[1].Target = nil
	p.Rules[1].Obls[0].Arg = "d"
	comes(t, "of everybody now", p, g, api.Result{Mark: api.Deny, Obls: []api.Obl{{On: 2, Kind: api.ONotify, Arg: "d"}}})
	p.Alg = 0
	refused(t, "wrong now", p, g)
	p.Alg = api.PermitOverrides
	comes(t, "permitted now", p, g, api.Result{Mark: api.Permit, Obls: []api.Obl{{On: 1, Kind: api.OLog, Arg: "a"}, {On: 1, Kind: api.OReview, Arg: "c"}}})
}

// R1: long ones are at their end soon.
func TestLongOnes(t *testing.T) {
	g := append(slices.Repeat([]api.Given{given(api.CSubject, "x", whole(1))}, 1<<17), x(slices.Repeat([]api.Value{whole(3), whole(1)}, 1<<16)...)...)
	says(t, "policy p first { deny d when (case.x = 2) on deny log d; permit r if (has case.x 1) on permit log a; }", g, api.Permit, "a")
	long := strings.Repeat("a", 1<<24)
	r := api.Rule{Id: long, Obls: slices.Repeat(dutiesOf("x"), 1<<17), Target: slices.Repeat(targets(2)[2], 1<<17), Cond: slices.Repeat(lit(boolean(1)), 1<<20)}
	if got := eval.Rule(r, known()); got.Mark != api.IndetP || len(got.Obls) != 0 {
		t.Errorf("%v, %d duties", got.Mark, len(got.Obls))
	}
	r.Cond = nil
	if got := eval.Rule(r, known()); got.Mark != api.Permit || len(got.Obls) != 1<<18 {
		t.Errorf("%v, %d duties", got.Mark, len(got.Obls))
	}
	if got := eval.Duties([]api.Obl{{On: 1, Arg: long}, {On: 2, Arg: long[1:]}}, api.Deny); len(got) != 1 || got[0].Arg != long[1:] {
		t.Errorf("%d duties", len(got))
	}
	for _, p := range []api.Policy{plain("p", api.DenyOverrides, slices.Repeat([]api.Rule{{Id: "r"}}, 1<<16)...), set("s", api.DenyOverrides, slices.Repeat([]api.Policy{plain("p", api.DenyUnless)}, 1<<16)...), plain(long, api.DenyUnless)} {
		if got, err := eval.Policy(p, nil); err != api.ErrArg || got.Mark != 0 || len(got.Obls) != 0 {
			t.Errorf("%v, error %d", got.Mark, err)
		}
	}
}
