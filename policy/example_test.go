package policy_test

import (
	"fmt"

	"bailiff/api"
	"bailiff/policy"
)

func Example() {
	owner := api.Node{Op: api.NAttr, Attr: api.Attr{Cat: api.CCase, Name: "owner"}}
	who := api.Node{Op: api.NAttr, Attr: api.Attr{Cat: api.CSubject, Name: "id", Must: true}}
	one := api.Node{Op: api.NOne}

	// Each node stands behind what it is of.
	own := []api.Node{owner, one, who, one, {Op: api.NEq}}
	fmt.Println(policy.Expr(own) == api.OK, policy.Expr(own[:4]) == api.ErrArg)

	open := api.Match{Attr: api.Attr{Cat: api.CCase, Name: "state"}, Op: api.MEq, Value: api.Value{Kind: api.KId, S: "open"}}
	p := api.Policy{
		Id:     "files",
		Alg:    api.DenyOverrides,
		Target: api.Target{{{open}}},
		Rules: []api.Rule{
			{Id: "owner", Cond: own, Obls: []api.Obl{{On: 1, Kind: api.OLog, Arg: "seen"}}},
			{Id: "others", Deny: true},
		},
	}
	fmt.Println(policy.Right(p) == api.OK, policy.Rules(p))

	// No name may stand twice, at whatever depth.
	s := api.Policy{Id: "all", Set: true, Alg: api.OnlyOne, Kids: []api.Policy{p, p}}
	fmt.Println(policy.Right(s) == api.ErrArg, policy.Rules(s))
	// Output:
	// true true
	// true 2
	// true 0
}
