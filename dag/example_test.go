package dag_test

import (
	"fmt"

	"bailiff/api"
	"bailiff/dag"
)

func Example() {
	d, err := dag.New(2)
	fmt.Println(err == api.OK, d.Len())

	// The ends 0 and 1 are the ways -1 and -2.
	low, _ := d.Make(api.Branch{Atom: 1, To: [3]int{-1, -1, -2}})
	same, _ := d.Make(api.Branch{Atom: 0, To: [3]int{low, low, low}})
	top, _ := d.Make(api.Branch{Atom: 0, To: [3]int{-1, low, -2}})
	fmt.Println(low, same, top)

	// By the answers 1 and 2; by 0; without any.
	fmt.Println(d.Walk(top, []int{1, 2}), d.Walk(top, []int{0}), d.Walk(top, nil))
	fmt.Println(d.Size(top), d.Size(low), d.Size(-1))

	// No room for a third one.
	_, err = d.Make(api.Branch{Atom: 2, To: [3]int{-1, -2, -3}})
	fmt.Println(err == api.ErrLimit)
	// Output:
	// true 0
	// 0 0 1
	// 1 0 0
	// 2 1 0
	// true
}
