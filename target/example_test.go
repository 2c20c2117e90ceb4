package target_test

import (
	"fmt"

	"bailiff/api"
	"bailiff/target"
)

func Example() {
	clerk := api.Match{Attr: api.Attr{Cat: api.CSubject, Name: "role"}, Op: api.MEq, Value: api.Value{Kind: api.KId, S: "clerk"}}
	judge := api.Match{Attr: clerk.Attr, Op: api.MEq, Value: api.Value{Kind: api.KId, S: "judge"}}
	late := api.Match{Attr: api.Attr{Cat: api.CCase, Name: "due", Must: true}, Op: api.MLess, Value: api.Value{Kind: api.KTick, N: 5}}

	// when (subject.role = #clerk or subject.role = #judge) and (case.due! < @5)
	t := api.Target{{{clerk}, {judge}}, {{late}}}
	given := []api.Given{
		{Cat: api.CSubject, Name: "role", Bag: []api.Value{judge.Value}},
		{Cat: api.CCase, Name: "due", Bag: []api.Value{{Kind: api.KTick, N: 3}}},
	}
	fmt.Println(target.Met(t, given))

	// Nobody knows when it is due.
	fmt.Println(target.Match(late, given[:1]), target.Met(t, given[:1]))

	// Of somebody without a role that doesn't matter.
	fmt.Println(target.Met(t, nil))

	// Of both roles only one is there.
	fmt.Println(target.All([]api.Match{clerk, judge}, given))

	// For everybody.
	fmt.Println(target.Met(nil, nil))
	// Output:
	// 2
	// 1 1
	// 0
	// 0
	// 2
}
