package mroute_test

import (
	"testing"

	"vinery/api"
	"vinery/mroute"
)

// wantLeaf wants a route's answer to be this one, and right.
func wantLeaf(t *testing.T, want, m api.Mroute, from api.Addr) {
	t.Helper()
	if l, e := mroute.Leaf(m, from); e != api.OK || l != want || !mroute.Right(l) {
		t.Errorf("Leaf(%v, %v): %v, %v, want %v", m, from, l, e, want)
	}
}

// wantNoLeaf wants none.
func wantNoLeaf(t *testing.T, m api.Mroute, from api.Addr) {
	t.Helper()
	if l, e := mroute.Leaf(m, from); e != api.ErrArg || l != (api.Mroute{}) {
		t.Errorf("Leaf(%v, %v): %v, %v, want ErrArg", m, from, l, e)
	}
}

func TestLeaf(t *testing.T) { // P7.5: of each kind, of both sizes
	for _, m := range rights() {
		b := string(written(t, m))
		for _, from := range []api.Addr{from4, from6, {Size: 4}, {Size: 16}, group4, group6} {
			if m.Kind == inter || m.Kind == selected {
				wantLeaf(t, api.Mroute{Kind: leaf, Key: b, From: from}, m, from)
			} else {
				wantNoLeaf(t, m, from)
			}
		}
	}
}

func TestLeafOfOdd(t *testing.T) { // P7.5: of one that is not right, from none, from an address that is not right
	for _, m := range append(odds(), api.Mroute{}) {
		wantNoLeaf(t, m, from4)
		wantNoLeaf(t, m, from6)
		wantNoLeaf(t, m, none)
	}
	for kind := 1; kind <= lastKind; kind++ {
		wantNoLeaf(t, right(kind), none)
		for _, odd := range oddAddrs {
			wantNoLeaf(t, right(kind), odd)
		}
	}
}
