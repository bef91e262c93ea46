package mroute_test

import (
	"testing"

	"vinery/api"
	"vinery/mroute"
)

// wantText wants a route to have this text.
func wantText(t *testing.T, want string, m api.Mroute) {
	t.Helper()
	if s := mroute.Text(m); s != want {
		t.Errorf("Text(%v): %q, want %q", m, s, want)
	}
}

func TestText(t *testing.T) { // P7.6: of each kind, with what may be none as none
	wantText(t, "1 0:1:1 10.0.0.1", right(intra))
	wantText(t, "1 ?:0009fffefdfcfbfa fe80::2", api.Mroute{Kind: intra, RD: oddDist, From: from6})
	wantText(t, "2 0:1:1 65000", right(inter))
	wantText(t, "2 0:0:0 0", api.Mroute{Kind: inter})
	wantText(t, "2 1:10.0.0.9:7 4294967295", api.Mroute{Kind: inter, RD: api.RD{0, 1, 10, 0, 0, 9, 0, 7}, AS: mostAS})
	m := right(selected)
	wantText(t, "3 0:1:1 10.1.0.1 224.0.0.1 10.0.0.1", m)
	m.Source = none
	wantText(t, "3 0:1:1 * 224.0.0.1 10.0.0.1", m)
	m.Group = none
	wantText(t, "3 0:1:1 * * 10.0.0.1", m)
	m.Source, m.From = source6, from6
	wantText(t, "3 0:1:1 2001:db8::7 * fe80::2", m)
	m.Group = group6
	wantText(t, "3 0:1:1 2001:db8::7 ff02::1 fe80::2", m)
	wantText(t, "5 0:1:1 10.1.0.1 224.0.0.1", right(active))
	wantText(t, "6 0:1:1 65000 10.1.0.1 224.0.0.1", right(shared))
	wantText(t, "7 0:1:1 65000 10.1.0.1 224.0.0.1", right(tree))
	wantText(t, "7 0:1:1 0 0.0.0.0 224.0.0.1", api.Mroute{Kind: tree, RD: dist, Source: api.Addr{Size: 4}, Group: group4})
	wantText(t, "5 0:1:1 :: ff02::1", api.Mroute{Kind: active, RD: dist, Source: api.Addr{Size: 16}, Group: group6})
}

func TestTextOfLeaves(t *testing.T) { // P7.6: the text of the one that it answers in brackets, ahead of From
	wantText(t, "4 [3 0:1:1 10.1.0.1 224.0.0.1 10.0.0.1] 10.0.0.1", right(leaf))
	for _, m := range []api.Mroute{right(inter), right(selected), {Kind: selected, From: from6}, {Kind: selected, RD: oddDist, Group: group6, From: from4}} {
		s := mroute.Text(m)
		l := api.Mroute{Kind: leaf, Key: string(written(t, m)), From: from4}
		wantText(t, "4 ["+s+"] 10.0.0.1", l)
		l.From = from6
		wantText(t, "4 ["+s+"] fe80::2", l)
	}
}

func TestTextOfOdd(t *testing.T) { // P7.6: empty
	wantText(t, "", api.Mroute{})
	for _, m := range odds() {
		wantText(t, "", m)
	}
}

// odds are some that are not right, each in one thing alone.
func odds() []api.Mroute {
	var l []api.Mroute
	for kind := 1; kind <= lastKind; kind++ {
		was := right(kind)
		add := func(change func(m *api.Mroute)) {
			m := was
			change(&m)
			l = append(l, m)
		}
		for _, odd := range oddKinds {
			add(func(m *api.Mroute) { m.Kind = odd })
		}
		for _, odd := range oddAS {
			add(func(m *api.Mroute) { m.AS = odd })
		}
		for _, odd := range oddAddrs {
			add(func(m *api.Mroute) { m.Source = odd })
			add(func(m *api.Mroute) { m.Group = odd })
			add(func(m *api.Mroute) { m.From = odd })
		}
		add(func(m *api.Mroute) { m.Source, m.Group = group4, source4 })
		add(func(m *api.Mroute) { m.Source = source6 })
		add(func(m *api.Mroute) { m.Key += "\x00" })
	}
	return l
}

func TestOdds(t *testing.T) { // P7.1
	wantOdd(t, odds()...)
	wantOdd(t, api.Mroute{})
}
