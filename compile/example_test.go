package compile_test

import (
	"fmt"

	"bailiff/api"
	"bailiff/compile"
	"bailiff/mark"
	"bailiff/parse"
)

func Example() {
	p, _, _ := parse.Policy("policy files first { deny closed when (case.state = #closed) on deny log late; permit owner when (case.role = #judge, case.due > @5); deny others; }")
	d, err := compile.Of(p)
	fmt.Println(err == api.OK, d.Size())

	id := func(s string) []api.Value { return []api.Value{{Kind: api.KId, S: s}} }
	r, asked := d.Decide([]api.Given{{Cat: api.CCase, Name: "state", Bag: id("closed")}})
	fmt.Println(mark.Name(r.Mark), r.Obls[0].Arg, asked)

	r, asked = d.Decide([]api.Given{{Cat: api.CCase, Name: "role", Bag: id("judge")}})
	fmt.Println(mark.Name(r.Mark), len(r.Obls), asked)

	// Not closed, and it isn't known whether the other two are so.
	r = d.Answer([]int{0})
	fmt.Println(mark.Name(r.Mark))

	r, err = compile.Decide(p, nil)
	fmt.Println(mark.Name(r.Mark), err == api.OK)
	// Output:
	// true 4
	// Deny late 1
	// Deny 0 3
	// Indeterminate{P}
	// Deny true
}
