package addr_test

import (
	"fmt"

	"vinery/addr"
	"vinery/api"
)

func Example() {
	for _, b := range [][]byte{{192, 0, 2, 1}, {32, 1, 13, 184, 0, 0, 0, 0, 0, 0, 0, 0, 0, 0, 0, 0}, {0, 1, 0, 0, 0, 0, 0, 2, 0, 0, 0, 0, 0, 0, 0, 3}, make([]byte, 16)} {
		a, _ := addr.Of(b)
		fmt.Println(addr.Text(a))
	}
	for _, s := range []string{"1.2.3", "01.2.3.4", "2001:DB8::"} {
		_, e := addr.Parse(s)
		fmt.Println(e == api.ErrForm)
	}
	a, _ := addr.Parse("10.1.2.3")
	p, _ := addr.Cut(a, 8)
	b, _ := addr.Parse("10.9.9.9")
	group, _ := addr.Parse("224.0.0.1")
	fmt.Println(addr.PrefixText(p), addr.Has(p, b), addr.Multicast(group))
	// Output:
	// 192.0.2.1
	// 2001:db8::
	// 1:0:0:2::3
	// ::
	// true
	// true
	// true
	// 10.0.0.0/8 true true
}
