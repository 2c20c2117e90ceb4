package vars_test

import (
	"fmt"

	"bailiff/api"
	"bailiff/parse"
	"bailiff/vars"
)

func Example() {
	p, _, _ := parse.Policy("policy p first when (case.x = 1) { permit r when (case.x = 1) if true; deny d if true; }")
	l, err := vars.Of(p)
	fmt.Println(len(l), err == api.OK)

	// What each comes to over a request.
	given := []api.Given{{Cat: api.CCase, Name: "x", Bag: []api.Value{{Kind: api.KText, S: "a"}}}}
	for _, a := range l {
		fmt.Println(vars.Ask(a, given))
	}

	// The rules' parts are found among them.
	r := p.Rules[0]
	fmt.Println(vars.Find(l, api.Atom{Match: r.Target[0][0][0]}), vars.Find(l, api.Atom{Cond: r.Cond}), vars.Find(l, api.Atom{}))

	// Two rules of one name.
	p.Rules[1].Id = "r"
	_, err = vars.Of(p)
	fmt.Println(err == api.ErrArg)
	// Output:
	// 2 true
	// 1
	// 2
	// 0 1 -1
	// true
}
