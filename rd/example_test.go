package rd_test

import (
	"fmt"

	"vinery/api"
	"vinery/rd"
)

func Example() {
	for _, n := range [][3]int{{api.RDShort, 65000, 77}, {api.RDAddr, 167772161, 7}, {api.RDLong, 4200000000, 7}} {
		d, _ := rd.Make(n[0], n[1], n[2])
		fmt.Println(rd.Text(d))
	}
	_, e := rd.Make(0, 65536, 0)
	fmt.Println(e == api.ErrNum)
	_, e = rd.Make(3, 0, 0)
	fmt.Println(e == api.ErrArg)
	fmt.Println(rd.Text(api.RD{0, 9, 0, 0, 0, 0, 0, 1}))
	_, e = rd.Parse("0:065:1")
	fmt.Println(e == api.ErrForm)
	// Output:
	// 0:65000:77
	// 1:10.0.0.1:7
	// 2:4200000000:7
	// true
	// true
	// ?:0009000000000001
	// true
}
