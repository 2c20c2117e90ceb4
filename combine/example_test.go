package combine_test

import (
	"fmt"

	"bailiff/api"
	"bailiff/combine"
	"bailiff/mark"
)

func Example() {
	// One permits, and another one isn't sure to deny.
	rules := []api.Mark{api.Permit, api.IndetD}
	for _, alg := range []int{api.DenyOverrides, api.PermitOverrides, api.OnlyOne} {
		m, err := combine.All(alg, rules)
		fmt.Println(mark.Name(m), err == api.OK)
	}

	// What the steps leave may be no decision yet.
	j := combine.Step(api.DenyOverrides, api.Permit, api.IndetD)
	_, err := combine.All(api.DenyOverrides, []api.Mark{j})
	fmt.Println(j, err == api.ErrArg)
	// Output:
	// Indeterminate{DP} true
	// Permit true
	// Indeterminate{DP} true
	// (1+0.5i) true
}
