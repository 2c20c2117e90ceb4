package parse_test

import (
	"fmt"

	"bailiff/api"
	"bailiff/parse"
)

func Example() {
	p, err, at := parse.Policy("policy p denyover { permit r if (eq (one case.owner) #ann); }")
	fmt.Println(p.Id, p.Alg == api.DenyOverrides, err == api.OK, at)

	// What a function is of stands ahead of it: case.owner, one, #ann, eq.
	r := p.Rules[0]
	for _, n := range r.Cond {
		fmt.Println(r.Id, n.Op, n.Attr.Name+n.Value.S+".")
	}

	// A rule ends with a semicolon: this is the place of what stands in its stead.
	_, err, at = parse.Policy("policy p denyover { permit r }")
	fmt.Println(err == api.ErrSyntax, at)
	// Output:
	// p true true 0
	// r 2 owner.
	// r 3 .
	// r 1 ann.
	// r 6 .
	// true 29
}
