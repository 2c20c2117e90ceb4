package value_test

import (
	"fmt"

	"bailiff/api"
	"bailiff/pack"
	"bailiff/value"
)

func Example() {
	owner := api.Value{Kind: api.KId, S: "ann"}
	due := api.Value{Kind: api.KTick, N: 5}
	title := api.Value{Kind: api.KText, S: `a"b`}
	fmt.Println(value.Text(owner), value.Text(due), value.Text(title))

	b := value.Put(nil, owner)
	b = value.Put(b, due)
	r := pack.Read(b)
	fmt.Println(value.Get(r) == owner, value.Get(r) == due, r.End() == api.OK)

	less, err := value.Less(due, api.Value{Kind: api.KTick, N: 10})
	fmt.Println(less, err == api.OK)
	_, err = value.Less(due, api.Value{Kind: api.KInt, N: 10})
	fmt.Println(err == api.ErrType)

	bag := []api.Value{owner, {Kind: api.KId, S: "bob"}}
	fmt.Println(value.Bag(bag), value.Has(bag, owner), value.Has(bag, due))
	// Output:
	// #ann @5 "a\22b"
	// true true true
	// true true
	// true
	// true true false
}
