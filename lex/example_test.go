package lex_test

import (
	"fmt"

	"bailiff/api"
	"bailiff/lex"
)

func Example() {
	l, err, _ := lex.All(`case.due < @5`)
	for _, t := range l {
		fmt.Printf("%d: kind %d, %d, %q\n", t.At, t.Kind, t.N, t.S)
	}
	fmt.Println(err == api.OK)

	l, err, at := lex.All(`case.due < @05`)
	fmt.Println(len(l), err == api.ErrSyntax, at)
	// Output:
	// 0: kind 1, 0, "case"
	// 4: kind 6, 0, "."
	// 5: kind 1, 0, "due"
	// 9: kind 6, 0, "<"
	// 11: kind 3, 5, ""
	// 13: kind 7, 0, ""
	// true
	// 0 true 11
}
