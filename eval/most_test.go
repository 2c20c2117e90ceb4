package eval_test

import (
	"slices"
	"strconv"
	"testing"

	"bailiff/api"
)

// P14.3 and P14.4 at the edges

// A policy without rules and a set without kids: what the algorithm answers by itself.
func TestNothingWithin(t *testing.T) {
	for _, alg := range algorithms() {
		m := map[int]api.Mark{api.DenyUnless: api.Deny, api.PermitUnless: api.Permit}[alg]
		for _, p := range []api.Policy{plain("p", alg), {Id: "p", Alg: alg, Rules: []api.Rule{}, Kids: []api.Policy{}, Obls: dutiesOf("p")}, set("p", alg), {Id: "p", Set: true, Alg: alg, Rules: []api.Rule{}, Kids: []api.Policy{}, Obls: dutiesOf("p")}} {
			if !p.Set && alg == api.OnlyOne {
				continue
			}
			for way := range ways {
				comes(t, "not met", under(0, p, way), known(), api.Result{})
				comes(t, "not known", under(1, p, way), known(), api.Result{Mark: unsure(m)})
				comes(t, "met", under(2, p, way), known(), api.Result{Mark: m, Obls: dutiesOn("p", m)})
			}
		}
	}
}

// deep are sets within each other, as deep as may be, of targets of these truths, from the root on.
func deep(truths []int, algs []int, way int, r api.Rule) api.Policy {
	p := under(truths[maxDeep-1], plain("p4", algs[maxDeep-1], r), way)
	for depth := maxDeep - 1; depth > 0; depth-- {
		p = under(truths[depth-1], set("p"+strconv.Itoa(depth), algs[depth-1], p), way+depth)
	}
	return p
}

// As deep as may be: with targets of each truth at each depth.
func TestDeep(t *testing.T) {
	algs := algorithms()
	for way, row := range rows([]int{0, 1, 2}, maxDeep) {
		if len(row) != maxDeep {
			continue
		}
		for _, m := range six()[:5] {
			for turn := range len(algs) {
				some := []int{algs[turn], algs[(turn+way)%6], algs[(turn+way/6)%6], algs[(turn+way)%3]}
				r := pickOf(rulesTo(m, "r", way+turn), way)
				want := r.want
				for depth := maxDeep; depth > 0; depth-- {
					want = ofParts(row[depth-1], some[depth-1], []api.Result{want}, dutiesOf("p"+strconv.Itoa(depth)))
				}
				comes(t, "deep", deep(row, some, way, r.is), known(), want)
			}
		}
	}
}

// full are as many duties as may be: one half of them on Permit, or all but one.
func full(name string, most bool) []api.Obl {
	var l []api.Obl
	for i := range maxObls {
		on := 1 + i%2
		if most {
			on = 1
		}
		l = append(l, api.Obl{On: on, Kind: 1 + i%4, Arg: name + "_" + strconv.Itoa(i)})
	}
	return l
}

// onPermit are those of a list, in order.
func onPermit(l []api.Obl) []api.Obl {
	return slices.DeleteFunc(slices.Clone(l), func(o api.Obl) bool { return o.On != 1 })
}

// As many rules as a policy may have, each with as many duties, and with a full target and a long condition.
func TestFullPolicies(t *testing.T) {
	target := slices.Repeat(api.Target{slices.Repeat([][]api.Match{slices.Repeat([]api.Match{matchOf(2)}, maxMatch)}, maxMatch)}, maxMatch)
	cond := slices.Concat(lit(boolean(0)), slices.Repeat([]api.Node{{Op: api.NNot}}, maxExpr-1))
	p := api.Policy{Id: "p", Alg: api.DenyOverrides, Target: target, Obls: full("p", false)}
	var want []api.Obl
	for i := range maxKids {
		name := "r" + strconv.Itoa(i)
		p.Rules = append(p.Rules, api.Rule{Id: name, Target: target, Cond: cond, Obls: full(name, i%2 == 0)})
		want = append(want, onPermit(p.Rules[i].Obls)...)
	}
	want = append(want, onPermit(p.Obls)...)
	if len(want) != 8*8+8*4+4 {
		t.Fatal(len(want))
	}
	comes(t, "all permit", p, known(), api.Result{Mark: api.Permit, Obls: want})
	for _, alg := range []int{api.PermitOverrides, api.DenyUnless, api.PermitUnless} {
		p.Alg = alg
		comes(t, "all permit", p, known(), api.Result{Mark: api.Permit, Obls: want})
	}
	p.Alg = api.FirstApplicable
	comes(t, "the first permits", p, known(), api.Result{Mark: api.Permit, Obls: append(onPermit(p.Rules[0].Obls), onPermit(p.Obls)...)})
	comes(t, "nothing known", p, nil, api.Result{})
}

// crowd is a tree of as many sets as may be, as deep as may be, with as many rules in all, each thing with as many duties; and the duties of it all, in order.
type crowd struct {
	policies, rules int
	want            []api.Obl
}

func (c *crowd) policy(depth int) api.Policy {
	c.policies++
	name := "p" + strconv.Itoa(c.policies)
	p := api.Policy{Id: name, Set: depth < maxDeep, Alg: api.PermitUnless, Obls: full(name, c.policies%2 == 0)}
	if p.Set {
		for range maxKids {
			p.Kids = append(p.Kids, c.policy(depth+1))
		}
	} else if c.policies%60 == 0 {
		for range min(2, maxAll-c.rules) {
			p.Rules = append(p.Rules, c.rule())
		}
	}
	c.want = append(c.want, onPermit(p.Obls)...)
	return p
}

func (c *crowd) rule() api.Rule {
	c.rules++
	name := "r" + strconv.Itoa(c.rules)
	r := api.Rule{Id: name, Obls: full(name, c.rules%2 == 0)}
	c.want = append(c.want, onPermit(r.Obls)...)
	return r
}

// As many policies as may be, at all depths, and as many rules in all.
func TestCrowd(t *testing.T) {
	var c crowd
	p := c.policy(1)
	if c.policies != 1+16+256+4096 || c.rules != maxAll {
		t.Fatal(c.policies, c.rules)
	}
	got := decided(t, p, nil)
	if got.Mark != api.Permit || !slices.Equal(got.Obls, c.want) {
		t.Errorf("%v, %d duties, not %d", got.Mark, len(got.Obls), len(c.want))
	}
	// One that isn't known, in the midst of it, takes all of them away.
	p.Kids[7].Kids[9].Kids[3].Target = targets(1)[0]
	p.Kids[7].Kids[9].Alg, p.Kids[7].Alg, p.Alg = api.DenyOverrides, api.FirstApplicable, api.FirstApplicable
	p.Kids[7].Kids[9].Kids = p.Kids[7].Kids[9].Kids[3:4]
	p.Kids[7].Kids = p.Kids[7].Kids[9:10]
	p.Kids = p.Kids[7:8]
	comes(t, "not known", p, known(), api.Result{Mark: api.IndetP})
}

// Policies that hold 64 rules in all: which one of them denies, at each place.
func TestEachOfAllRules(t *testing.T) {
	for at := range maxAll {
		p := api.Policy{Id: "s", Set: true, Alg: api.DenyOverrides, Obls: dutiesOf("s")}
		for i := range maxAll {
			if i%maxKids == 0 {
				name := "p" + strconv.Itoa(i/maxKids)
				p.Kids = append(p.Kids, plain(name, api.DenyOverrides))
			}
			name := "r" + strconv.Itoa(i)
			kid := &p.Kids[i/maxKids]
			kid.Rules = append(kid.Rules, api.Rule{Id: name, Deny: i == at, Obls: dutiesOf(name)})
		}
		var want []api.Obl
		for _, name := range []string{"r" + strconv.Itoa(at), "p" + strconv.Itoa(at/maxKids), "s"} {
			want = append(want, dutiesOn(name, api.Deny)...)
		}
		comes(t, "one of all", p, nil, api.Result{Mark: api.Deny, Obls: want})
	}
}
