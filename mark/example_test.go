package mark_test

import (
	"fmt"

	"bailiff/api"
	"bailiff/mark"
)

func Example() {
	// One permits, and another isn't sure to deny.
	j := mark.Join(api.Permit, mark.Indet(api.Deny))
	fmt.Println(j, mark.Right(j), mark.Name(j) == "")
	fmt.Println(mark.Name(mark.Over(j)))

	// Permit over Deny: the same, turned there and back.
	fmt.Println(mark.Name(mark.Turn(mark.Over(mark.Turn(j)))))
	// Output:
	// (1+0.5i) false true
	// Indeterminate{DP}
	// Permit
}
