package community_test

import (
	"fmt"

	"vinery/api"
	"vinery/community"
)

func Example() {
	a, _ := community.Target(0, 65000, 77)
	b, _ := community.Import(api.Addr{Size: 4, B: [16]byte{10, 0, 0, 1}}, 3)
	c, _ := community.Source(65000)
	fmt.Println(community.Text(a))
	fmt.Println(community.Text(b))
	fmt.Println(community.Text(c))
	other := api.Ext{0, 9, 253, 232, 0, 0, 0, 0}
	fmt.Println(community.Kind(other) == api.ExtOther, community.Text(other))

	d, _ := community.Target(0, 65000, 78)
	for _, e := range community.Set(d, a, d) {
		fmt.Println(community.Text(e))
	}
	fmt.Println(community.Meet([]api.Ext{a, d}, []api.Ext{d}))
	// Output:
	// rt:0:65000:77
	// import:10.0.0.1:3
	// source:65000
	// true other:0009fde800000000
	// rt:0:65000:77
	// rt:0:65000:78
	// true
}
