package eval_test

import (
	"fmt"

	"bailiff/api"
	"bailiff/eval"
	"bailiff/mark"
	"bailiff/parse"
)

func Example() {
	p, _, _ := parse.Policy("policy p denyover { permit r on permit log a; deny d when (case.x = 1) on deny notify b; } on permit review c")
	for _, bag := range [][]api.Value{nil, {{Kind: api.KInt, N: 1}}, {{Kind: api.KText, S: "a"}}} {
		given := []api.Given{{Cat: api.CCase, Name: "x", Bag: bag}}
		r, err := eval.Policy(p, given)
		fmt.Println(mark.Name(r.Mark), r.Obls, err == api.OK)
	}

	// A rule by itself.
	fmt.Println(mark.Name(eval.Rule(p.Rules[1], nil).Mark))

	// Duties of a list by themselves.
	fmt.Println(eval.Duties(p.Obls, api.Permit), eval.Duties(p.Obls, api.Deny))

	// Two rules of one name.
	p.Rules[1].Id = "r"
	_, err := eval.Policy(p, nil)
	fmt.Println(err == api.ErrArg)
	// Output:
	// Permit [{1 1 a} {1 3 c}] true
	// Deny [{2 4 b}] true
	// Indeterminate{DP} [] true
	// NotApplicable
	// [{1 3 c}] []
	// true
}
