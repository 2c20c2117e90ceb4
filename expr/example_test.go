package expr_test

import (
	"fmt"

	"bailiff/api"
	"bailiff/expr"
	"bailiff/value"
)

func Example() {
	one := api.Node{Op: api.NOne}
	due := api.Node{Op: api.NAttr, Attr: api.Attr{Cat: api.CCase, Name: "due"}}
	now := api.Node{Op: api.NAttr, Attr: api.Attr{Cat: api.CEnv, Name: "tick"}}
	open := api.Node{Op: api.NLit, Value: api.Value{Kind: api.KBool, N: 1}}

	// (less (one case.due) (one env.tick)): is it overdue?
	late := []api.Node{due, one, now, one, {Op: api.NLess}}
	given := []api.Given{
		{Cat: api.CCase, Name: "due", Bag: []api.Value{{Kind: api.KTick, N: 5}}},
		{Cat: api.CEnv, Name: "tick", Bag: []api.Value{{Kind: api.KTick, N: 9}}},
	}
	v, err := expr.Value(late, given)
	fmt.Println(value.Text(v), err == api.OK, expr.Cond(late, given))

	// Nobody knows when it is due.
	v, err = expr.Value(late, given[1:])
	fmt.Println(value.Text(v), err == api.ErrMissing, expr.Cond(late, given[1:]))

	// (or .. true): that doesn't matter any more.
	anyway := append(late, open, api.Node{Op: api.NOr})
	v, err = expr.Value(anyway, given[1:])
	fmt.Println(value.Text(v), err == api.OK, expr.Cond(anyway, given[1:]))

	fmt.Println(expr.Cond(nil, nil))
	// Output:
	// true true 2
	//  true 1
	// true true 2
	// 2
}
