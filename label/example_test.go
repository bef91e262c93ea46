package label_test

import (
	"fmt"

	"vinery/api"
	"vinery/label"
)

func Example() {
	b, e := label.Bytes(16, true)
	fmt.Println(b, e == api.OK)
	_, e = label.Bytes(1048576, true)
	fmt.Println(e == api.ErrNum)

	p, _ := label.New(16, 2)
	for _, owner := range []string{"a", "b", "a"} {
		n, _ := p.Take(owner)
		fmt.Println(owner, n)
	}
	_, e = p.Take("c")
	fmt.Println(e == api.ErrFull)
	fmt.Println(p.Free("a"))
	n, _ := p.Take("c")
	fmt.Println("c", n)
	// Output:
	// [0 1 1] true
	// true
	// a 16
	// b 17
	// a 16
	// true
	// true
	// c 16
}
