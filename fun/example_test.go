package fun_test

import (
	"fmt"
	"math"

	"bailiff/api"
	"bailiff/fun"
	"bailiff/value"
)

func Example() {
	n, err := fun.Add(2, 3)
	fmt.Println(n, err == api.OK)
	n, err = fun.Add(math.MaxInt, 1)
	fmt.Println(n, err == api.ErrOver)

	two := api.Value{Kind: api.KInt, N: 2}
	three := api.Value{Kind: api.KInt, N: 3}
	due := api.Value{Kind: api.KTick, N: 3}

	v, err := fun.Call(api.NLess, two, three)
	fmt.Println(value.Text(v), err == api.OK)
	v, err = fun.Call(api.NNot, v)
	fmt.Println(value.Text(v), err == api.OK)

	_, err = fun.Call(api.NAdd, two, due)
	fmt.Println(err == api.ErrType)
	_, err = fun.Call(api.NAdd, two)
	fmt.Println(err == api.ErrArg)
	// Output:
	// 5 true
	// 0 true
	// true true
	// false true
	// true
	// true
}
