package ask_test

import (
	"bytes"
	"fmt"

	"bailiff/api"
	"bailiff/ask"
)

func Example() {
	ann := api.Value{Kind: api.KId, S: "ann"}
	clerk, judge := api.Value{Kind: api.KId, S: "clerk"}, api.Value{Kind: api.KId, S: "judge"}
	l := []api.Given{
		{Cat: api.CSubject, Name: "id", Bag: []api.Value{ann}},
		{Cat: api.CSubject, Name: "role", Bag: []api.Value{clerk}},
	}
	fmt.Println(ask.Right(l) == api.OK)

	// An attribute of that category and name makes room for another one; a new one stands behind.
	more := ask.With(l, api.Given{Cat: api.CSubject, Name: "role", Bag: []api.Value{clerk, judge}})
	more = ask.With(more, api.Given{Cat: api.CCase, Name: "owner", Bag: []api.Value{ann}})
	fmt.Println(len(l), len(more))

	bag, err := ask.Get(more, api.Attr{Cat: api.CSubject, Name: "role"})
	fmt.Println(len(bag), err == api.OK)
	bag, err = ask.Get(more, api.Attr{Cat: api.CEnv, Name: "tick"})
	fmt.Println(len(bag), err == api.OK)
	bag, err = ask.Get(more, api.Attr{Cat: api.CEnv, Name: "tick", Must: true})
	fmt.Println(len(bag), err == api.ErrMissing)

	// The order of the attributes doesn't matter.
	fmt.Println(bytes.Equal(ask.Put(l), ask.Put([]api.Given{l[1], l[0]})), bytes.Equal(ask.Put(l), ask.Put(more)))
	// Output:
	// true
	// 2 3
	// 2 true
	// 0 true
	// 0 true
	// true false
}
