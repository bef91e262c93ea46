package timer_test

import (
	"fmt"

	"vinery/api"
	"vinery/timer"
)

func Example() {
	x := timer.New()
	fmt.Println(x.Start("a", 2) == api.OK, x.Start("b", 1) == api.OK, x.Start("a", 0) == api.ErrArg)
	fmt.Println(x.Next())
	fmt.Println(x.Tick())
	fmt.Println(x.Left("a"))
	fmt.Println(x.Left("b"))
	fmt.Println(x.Tick())
	fmt.Println(x.Next())

	x.Start("c", 3)
	fmt.Println(x.Stop("c"), x.Stop("c"))
	// Output:
	// true true true
	// 1 true
	// [b]
	// 1 true
	// 0 false
	// [a]
	// 0 false
	// true false
}
