package attr_test

import (
	"fmt"

	"vinery/api"
	"vinery/attr"
)

func Example() {
	l, e := attr.Split([]byte{64, 1, 1, 0, 128, 4, 4, 0, 0, 0, 9})
	fmt.Println(l, e == api.OK)
	a, rest, out := attr.Read(l)
	fmt.Println(a.Origin, a.Med, len(rest), out == api.OutOk)
	a.Path = []api.Segment{{AS: []int{65000}}}
	w, e := attr.Write(a)
	fmt.Println(w, e == api.OK)
	b, e := attr.Join(w...)
	fmt.Println(b, e == api.OK)
	fmt.Println(attr.Right(a), attr.Same(a, attr.None()))
	_, _, out = attr.Read([]api.Raw{{Flags: 64, Kind: api.AttrOrigin, Value: []byte{3}}})
	fmt.Println(out == api.OutWithdraw)
	// Output:
	// [{64 1 [0]} {128 4 [0 0 0 9]}] true
	// 0 9 0 true
	// [{64 1 [0]} {64 2 [2 1 0 0 253 232]} {128 4 [0 0 0 9]}] true
	// [64 1 1 0 64 2 6 2 1 0 0 253 232 128 4 4 0 0 0 9] true
	// true false
	// true
}
