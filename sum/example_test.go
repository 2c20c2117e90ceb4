package sum_test

import (
	"fmt"

	"bailiff/sum"
)

func Example() {
	fmt.Printf("%X\n", sum.Sum([]byte("123456789")))

	var last uint64
	for _, record := range []string{"one", "two"} {
		last = sum.Chain(last, []byte(record))
	}
	edited := sum.Chain(sum.Chain(0, []byte("0ne")), []byte("two"))
	fmt.Println(last == edited)
	// Output:
	// CBF43926
	// false
}
