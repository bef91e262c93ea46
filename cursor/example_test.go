package cursor_test

import (
	"fmt"

	"vinery/api"
	"vinery/cursor"
)

func Example() {
	r := cursor.Open([]byte{1, 2, 3})
	fmt.Println(r.Num(2), r.Left(), r.Num(2), r.Bad())

	b, e := cursor.Put(nil, 258, 2)
	fmt.Println(b, e == api.OK)
	_, e = cursor.Put(nil, 256, 1)
	fmt.Println(e == api.ErrNum)
	_, e = cursor.Put(nil, 1, 5)
	fmt.Println(e == api.ErrArg)

	fmt.Println(cursor.Order([]byte("a"), []byte("ab")), cursor.Order([]byte("b"), []byte("ab")))
	// Output:
	// 258 1 0 true
	// [1 2] true
	// true
	// true
	// -1 1
}
