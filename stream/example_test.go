package stream_test

import (
	"fmt"

	"vinery/api"
	"vinery/message"
	"vinery/stream"
)

func Example() {
	b, _ := message.Bytes(api.Message{Kind: api.MsgAlive})
	s := stream.New()
	fmt.Println(len(s.Feed(b[:18])), s.Waiting())
	l := s.Feed(append(b[18:], b...))
	fmt.Println(len(l), l[0].Message.Kind == api.MsgAlive, l[0].Out == api.OutOk, s.Waiting())
	n, broken := s.Broken()
	fmt.Println(n.Code, n.Sub, broken)
	b[17] = 20
	fmt.Println(len(s.Feed(b)), s.Waiting())
	n, broken = s.Broken()
	fmt.Println(n, broken)
	// Output:
	// 0 18
	// 2 true true 0
	// 0 0 false
	// 0 0
	// {1 2 [0 20]} true
}
