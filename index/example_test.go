package index_test

import (
	"fmt"

	"bailiff/api"
	"bailiff/index"
	"bailiff/mark"
	"bailiff/parse"
	"bailiff/show"
)

func Example() {
	p, _, _ := parse.Policy("policy p first when (case.x = 1 or case.y = 2) and (case.z < 3, case.w = 4) { }")
	m, ok := index.Key(p.Target)
	fmt.Println(show.Attr(m.Attr), m.Value.N, ok)

	s, _, _ := parse.Policy("set files only { policy open first when (case.state = #open) { permit o on permit log seen; } policy closed denyunless when (case.state = #closed) { } policy late denyunless when (case.due < @5) { } }")
	closed := []api.Given{{Cat: api.CCase, Name: "state", Bag: []api.Value{{Kind: api.KId, S: "closed"}}}}
	fmt.Println(index.Pick(s.Kids, closed), index.Pick(s.Kids, nil))

	r, err := index.Decide(s, closed)
	fmt.Println(mark.Name(r.Mark), err == api.OK)

	// The kid that is wrong isn't picked, and the whole is refused all the same.
	s.Kids[0].Alg = 0
	_, err = index.Decide(s, closed)
	fmt.Println(err == api.ErrArg)
	// Output:
	// case.w 4 true
	// [1 2] [2]
	// Deny true
	// true
}
