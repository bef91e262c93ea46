package update_test

import (
	"fmt"

	"vinery/api"
	"vinery/update"
)

func Example() {
	from := api.Addr{Size: 4, B: [16]byte{10, 0, 0, 1}}
	u := update.Empty()
	u.Reach = []api.Table{{Size: 4, Safi: api.SafiMulti, Next: from, M: []api.Mroute{{Kind: api.RouteIntra, From: from}}}}
	u.Attrs.Pref = 100
	b, e := update.Bytes(u)
	fmt.Println(update.Right(u), b, e == api.OK)
	v, out, _ := update.Parse(b)
	fmt.Println(update.Same(u, v), out == api.OutOk)
	b[7] = 9
	v, out, _ = update.Parse(b)
	fmt.Println(len(v.Reach), len(v.Unreach[0].M), out == api.OutWithdraw)
	v, out, note := update.Parse([]byte{0, 0, 0, 3, 128, 15, 0})
	fmt.Println(update.Same(v, update.Empty()), out == api.OutReset, note.Code, note.Sub)
	// Output:
	// true [0 0 0 40 64 1 1 0 64 2 0 64 5 4 0 0 0 100 128 14 23 0 1 5 4 10 0 0 1 0 1 12 0 0 0 0 0 0 0 0 10 0 0 1] true
	// true true
	// 0 1 true
	// true true 3 9
}
