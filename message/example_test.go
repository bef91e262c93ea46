package message_test

import (
	"fmt"

	"vinery/api"
	"vinery/message"
)

func Example() {
	id := api.Addr{Size: 4, B: [16]byte{10, 0, 0, 1}}
	m := api.Message{Kind: api.MsgOpen, Open: api.Open{AS: 65000, Hold: 90, Id: id, Refresh: true}}
	b, e := message.Bytes(m)
	fmt.Println(message.Right(m), b[16:], e == api.OK)
	kind, size, _, e := message.Head(b)
	fmt.Println(kind == api.MsgOpen, size, e == api.OK)
	n, out, _ := message.Body(kind, b[api.HeadSize:])
	fmt.Println(message.Same(m, n), out == api.OutOk)
	b[api.HeadSize] = 3
	n, out, note := message.Body(kind, b[api.HeadSize:])
	fmt.Println(message.Same(n, api.Message{}), out == api.OutReset, note)
	b[18] = 9
	kind, size, note, e = message.Head(b)
	fmt.Println(kind, size, note, e == api.OK)
	// Output:
	// true [0 39 1 4 253 232 0 90 10 0 0 1 10 2 8 2 0 65 4 0 0 253 232] true
	// true 20 true
	// true true
	// true true {2 1 [0 4]}
	// 0 0 {1 3 [9]} true
}
