package pack_test

import (
	"fmt"

	"bailiff/api"
	"bailiff/pack"
)

func Example() {
	b := pack.Num(nil, -7)
	b = pack.Text(b, "ann")

	r := pack.Read(b)
	fmt.Println(r.In(-10, 10), r.Text(api.MaxText), r.End() == api.OK)
	// Output: -7 ann true
}
