package pmsi_test

import (
	"fmt"

	"vinery/api"
	"vinery/pmsi"
)

func Example() {
	root := api.Addr{Size: 4, B: [16]byte{10, 0, 0, 1}}
	b, e := pmsi.Bytes(api.Tunnel{Kind: api.TunnelCopies, Label: 16, Root: root})
	fmt.Println(b, e == api.OK)
	m := api.Tunnel{Leaf: true, Kind: api.TunnelMldp, Root: root, Id: []byte{1, 2}}
	b, e = pmsi.Bytes(m)
	fmt.Println(b, e == api.OK)
	back, e := pmsi.Parse(b)
	fmt.Println(back, e == api.OK)
	_, e = pmsi.Bytes(api.Tunnel{Kind: api.TunnelSsm, Root: root, Id: []byte{10, 0, 0, 2}})
	fmt.Println(e == api.ErrArg)
	fmt.Println(pmsi.Same(m, api.Tunnel{Kind: api.TunnelMldp, Label: 16, Root: root, Id: []byte{1, 2}}))
	// Output:
	// [0 6 0 1 0 10 0 0 1] true
	// [1 2 0 0 0 6 0 1 4 10 0 0 1 0 2 1 2] true
	// {true 2 0 {4 [10 0 0 1 0 0 0 0 0 0 0 0 0 0 0 0]} [1 2]} true
	// true
	// true
}
