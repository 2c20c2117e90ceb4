package show_test

import (
	"fmt"

	"bailiff/api"
	"bailiff/parse"
	"bailiff/show"
)

func Example() {
	p, err, _ := parse.Policy("policy files first{\n" +
		"  permit owner if ( eq (one case.owner)(one subject.id !) )\n" +
		"    on permit log seen;\n" +
		"}")
	fmt.Println(err == api.OK)

	// A blank between words, however many stood there.
	fmt.Println(show.Policy(p))

	// What is wrong can't be written: no text reads as that.
	p.Rules[0].Id = "files"
	fmt.Println(show.Policy(p) == "")
	// Output:
	// true
	// policy files first { permit owner if (eq (one case.owner) (one subject.id!)) on permit log seen; }
	// true
}
