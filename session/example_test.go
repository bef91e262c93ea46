package session_test

import (
	"fmt"

	"vinery/api"
	"vinery/session"
)

func Example() {
	one := api.Addr{Size: 4, B: [16]byte{10, 0, 0, 1}}
	two := api.Addr{Size: 4, B: [16]byte{10, 0, 0, 2}}
	f := api.Family{Size: 4, Safi: api.SafiMulti}

	s, e := session.New(api.Peer{AS: 65000, Id: one, Hold: 90, Other: 65000, Families: []api.Family{f}})
	fmt.Println(e == api.OK, s.State() == api.StateIdle)
	told := s.Do(api.Event{Do: api.SesStart})
	fmt.Println(told.Dial, s.State() == api.StateConnect)
	told = s.Do(api.Event{Do: api.SesConnected})
	fmt.Println(told.Send[0].Kind == api.MsgOpen, s.State() == api.StateSent)

	open := api.Open{AS: 65000, Hold: 30, Id: two, Families: []api.Family{f}}
	told = s.Do(api.Event{Do: api.SesHeard, Heard: api.Heard{Message: api.Message{Kind: api.MsgOpen, Open: open}}})
	fmt.Println(told.Send[0].Kind == api.MsgAlive, s.State() == api.StateConfirm)
	fmt.Println(s.Id() == two, s.Hold(), s.Families())
	told = s.Do(api.Event{Do: api.SesHeard, Heard: api.Heard{Message: api.Message{Kind: api.MsgAlive}}})
	fmt.Println(told.Up, s.State() == api.StateUp)

	told = s.Do(api.Event{Do: api.SesStop})
	fmt.Println(told.Send[0].Note, told.Close, told.Down, s.State() == api.StateIdle)
	// Output:
	// true true
	// true true
	// true true
	// true true
	// true 30 [{4 5}]
	// true true
	// {6 2 []} true true true
}
