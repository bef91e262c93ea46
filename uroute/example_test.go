package uroute_test

import (
	"fmt"

	"vinery/api"
	"vinery/uroute"
)

func Example() {
	u := api.Uroute{RD: api.RD{0, 0, 0, 1, 0, 0, 0, 1}, Prefix: api.Prefix{Addr: api.Addr{Size: 4, B: [16]byte{10, 1}}, Bits: 16}, Label: 16}
	b, e := uroute.Bytes(u)
	fmt.Println(b, e == api.OK)
	fmt.Println(uroute.Text(u))
	back, n, e := uroute.Take(append(b, 9), 4)
	fmt.Println(back == u, n, e == api.OK)
	v := u
	v.Label = 17
	fmt.Println(uroute.Same(u, v), uroute.Compare(u, v))
	// Output:
	// [104 0 1 1 0 0 0 1 0 0 0 1 10 1] true
	// 0:1:1 10.1.0.0/16 16
	// true 14 true
	// true 0
}
