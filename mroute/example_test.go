package mroute_test

import (
	"fmt"

	"vinery/api"
	"vinery/mroute"
	"vinery/rd"
)

func Example() {
	d, _ := rd.Parse("0:1:1")
	a := api.Addr{Size: 4, B: [16]byte{10, 0, 0, 1}}
	m := api.Mroute{Kind: api.RouteIntra, RD: d, From: a}
	b, e := mroute.Bytes(m)
	fmt.Println(b, mroute.Text(m), e == api.OK)
	m = api.Mroute{Kind: api.RouteSelect, RD: d, Group: api.Addr{Size: 4, B: [16]byte{224, 0, 0, 1}}, From: a}
	b, e = mroute.Bytes(m)
	fmt.Println(b, mroute.Text(m), e == api.OK)
	back, n, e := mroute.Take(append(b, 9), 4)
	fmt.Println(back == m, n, e == api.OK)
	l, e := mroute.Leaf(m, api.Addr{Size: 4, B: [16]byte{10, 0, 0, 2}})
	fmt.Println(mroute.Text(l), e == api.OK)
	b, e = mroute.Bytes(l)
	fmt.Println(b, e == api.OK)
	// Output:
	// [1 12 0 0 0 1 0 0 0 1 10 0 0 1] 1 0:1:1 10.0.0.1 true
	// [3 18 0 0 0 1 0 0 0 1 0 32 224 0 0 1 10 0 0 1] 3 0:1:1 * 224.0.0.1 10.0.0.1 true
	// true 20 true
	// 4 [3 0:1:1 * 224.0.0.1 10.0.0.1] 10.0.0.2 true
	// [4 24 3 18 0 0 0 1 0 0 0 1 0 32 224 0 0 1 10 0 0 1 10 0 0 2] true
}
