package label_test

import (
	"math"
	"strconv"
	"strings"
	"testing"
	"unsafe"

	"vinery/api"
	"vinery/label"
)

var (
	_ func(first, count int) (*label.Pool, api.Errno) = label.New
	_ func(*label.Pool, string) (int, api.Errno)      = (*label.Pool).Take
	_ func(*label.Pool, string) bool                  = (*label.Pool).Free
	_ func(*label.Pool, string) (int, bool)           = (*label.Pool).Of
	_ func(*label.Pool, int) (string, bool)           = (*label.Pool).Owner
	_ func(*label.Pool) int                           = (*label.Pool).Count
	_ func(*label.Pool)                               = (*label.Pool).Clear
)

// pool is one that can be made.
func pool(t *testing.T, first, count int) *label.Pool {
	t.Helper()
	p, e := label.New(first, count)
	if e != api.OK || p == nil {
		t.Fatalf("New(%d, %d): %v, %v", first, count, p, e)
	}
	return p
}

// wantTake wants these owners to get these labels, the first one so, those behind it the next ones.
func wantTake(t *testing.T, p *label.Pool, first int, owners ...string) {
	t.Helper()
	for i, owner := range owners {
		if n, e := p.Take(owner); n != first+i || e != api.OK {
			t.Errorf("Take(%q): %d, %v, want %d", owner, n, e, first+i)
		}
	}
}

// wantFull wants these owners to get none.
func wantFull(t *testing.T, p *label.Pool, owners ...string) {
	t.Helper()
	for _, owner := range owners {
		if n, e := p.Take(owner); n != 0 || e != api.ErrFull {
			t.Errorf("Take(%q): %d, %v, want ErrFull", owner, n, e)
		}
	}
}

// wantFree wants these owners to have had one or not.
func wantFree(t *testing.T, p *label.Pool, had bool, owners ...string) {
	t.Helper()
	for _, owner := range owners {
		if p.Free(owner) != had {
			t.Errorf("Free(%q): want %v", owner, had)
		}
	}
}

// wantHas wants an owner to have a label, and nobody else to have it.
func wantHas(t *testing.T, p *label.Pool, owner string, n int) {
	t.Helper()
	if got, has := p.Of(owner); got != n || !has {
		t.Errorf("Of(%q): %d, %v, want %d", owner, got, has, n)
	}
	if got, has := p.Owner(n); got != owner || !has {
		t.Errorf("Owner(%d): %q, %v, want %q", n, got, has, owner)
	}
}

// wantHasNone wants these owners to have none.
func wantHasNone(t *testing.T, p *label.Pool, owners ...string) {
	t.Helper()
	for _, owner := range owners {
		if n, has := p.Of(owner); n != 0 || has {
			t.Errorf("Of(%q): %d, %v, want none", owner, n, has)
		}
	}
}

// wantUnowned wants nobody to have these labels.
func wantUnowned(t *testing.T, p *label.Pool, labels ...int) {
	t.Helper()
	for _, n := range labels {
		if owner, has := p.Owner(n); owner != "" || has {
			t.Errorf("Owner(%d): %q, %v, want nobody", n, owner, has)
		}
	}
}

// wantCount wants so many to have one.
func wantCount(t *testing.T, p *label.Pool, n int) {
	t.Helper()
	if got := p.Count(); got != n {
		t.Errorf("Count: %d, want %d", got, n)
	}
}

func TestNew(t *testing.T) { // P5.2: nobody has one, and there are so many from first on
	for _, c := range []struct{ first, count int }{{16, 1}, {16, 2}, {17, 1}, {1000, 40}, {most, 1}, {most - 1, 2}, {most - 30, 31}, {16, 256}} {
		p := pool(t, c.first, c.count)
		wantCount(t, p, 0)
		wantUnowned(t, p, c.first-1, c.first, c.first+c.count-1, c.first+c.count)
		wantHasNone(t, p, "", "a", "0")
		for i := range c.count {
			wantTake(t, p, c.first+i, strconv.Itoa(i))
		}
		wantFull(t, p, "", "a", strconv.Itoa(c.count))
		wantCount(t, p, c.count)
	}
}

func TestNewEdges(t *testing.T) { // P5.2: just inside, just outside of what may be
	for _, first := range []int{14, 15, 16, 17, 18, 1000, most - 2, most - 1, most, most + 1, most + 2} {
		for _, count := range []int{-1, 0, 1, 2, 3, most - first - 1, most - first, most - first + 1, most - first + 2, most - first + 3} {
			p, e := label.New(first, count)
			fine := first >= 16 && count >= 1 && first+count-1 <= most
			if fine != (e == api.OK) || fine != (p != nil) || !fine && e != api.ErrArg {
				t.Errorf("New(%d, %d): %v, %v", first, count, p, e)
			}
		}
	}
}

func TestNewOddNumbers(t *testing.T) { // P5.2, W7: also where first + count wraps round
	odd := []int{math.MinInt, math.MinInt + 1, math.MinInt + 15, math.MinInt + 16, math.MinInt + 17, math.MinInt + most, -1 << 32, -1 << 20, -17, -16, -1, 0}
	great := []int{most + 1, most + 2, 1 << 32, 1<<32 + 16, 1 << 62, math.MaxInt - most, math.MaxInt - 17, math.MaxInt - 16, math.MaxInt - 15, math.MaxInt - 1, math.MaxInt}
	refuse := func(first, count int) {
		if p, e := label.New(first, count); p != nil || e != api.ErrArg {
			t.Errorf("New(%d, %d): %v, %v, want ErrArg", first, count, p, e)
		}
	}
	for _, a := range append(odd, great...) {
		for _, b := range append(odd, great...) {
			refuse(a, b)
		}
		for _, n := range []int{1, 2, 15, 16, 17, most} {
			refuse(a, n)
			refuse(n, a)
		}
	}
	for first := range 16 {
		refuse(first, 1)
		refuse(first, most-16)
	}
}

func TestTakeAgain(t *testing.T) { // P5.2, P5.5: who has one gets it again, also of a pool that is full
	p := pool(t, 100, 3)
	wantTake(t, p, 100, "a", "b")
	wantTake(t, p, 100, "a", "b")
	wantTake(t, p, 100, "a", "b", "c")
	wantFull(t, p, "d", "", "aa", "A")
	wantTake(t, p, 100, "a", "b", "c")
	wantCount(t, p, 3)
	wantFull(t, p, "d")
	wantHasNone(t, p, "d", "", "aa", "A")
}

func TestTakeOfOne(t *testing.T) { // P5.2: a pool of one label, the least and the greatest one
	for _, n := range []int{16, most} {
		p := pool(t, n, 1)
		for _, owner := range []string{"a", "", "b"} {
			wantFree(t, p, false, owner)
			wantTake(t, p, n, owner)
			wantTake(t, p, n, owner)
			wantHas(t, p, owner, n)
			wantCount(t, p, 1)
			wantFull(t, p, "other", owner+"\x00")
			wantUnowned(t, p, n-1, n+1)
			wantFree(t, p, true, owner)
			wantFree(t, p, false, owner)
			wantUnowned(t, p, n)
			wantCount(t, p, 0)
		}
	}
}

func TestEmptyName(t *testing.T) { // P5.2, P5.3: the owner without a name is one like others
	p := pool(t, 16, 3)
	wantFree(t, p, false, "")
	wantHasNone(t, p, "")
	wantTake(t, p, 16, "a", "", "b")
	wantHas(t, p, "", 17)
	wantFull(t, p, "c")
	wantTake(t, p, 17, "")
	wantFree(t, p, true, "")
	wantFree(t, p, false, "")
	wantUnowned(t, p, 17)
	wantHasNone(t, p, "")
	wantTake(t, p, 17, "c")
	wantFull(t, p, "")
	wantHas(t, p, "c", 17)
}

func TestNames(t *testing.T) { // P5.2: names that are almost alike are of several owners
	p := pool(t, 16, 40)
	names := []string{"", " ", "a", "A", "a ", " a", "aa", "a\x00", "\x00a", "\x00", "\x00\x00", "é", "e\u0301", "\xff", "\xfe", "\uFFFD", "\xed\xa0\x80", "16", "17", "016", strings.Repeat("a", 1<<16), strings.Repeat("a", 1<<16) + "b"}
	wantTake(t, p, 16, names...)
	for i, name := range names {
		wantHas(t, p, name, 16+i)
	}
	wantCount(t, p, len(names))
	wantFree(t, p, true, names...)
	wantHasNone(t, p, names...)
	wantCount(t, p, 0)
}

func TestFree(t *testing.T) { // P5.2, P5.3
	p := pool(t, 50, 4)
	wantFree(t, p, false, "a", "", "b")
	wantTake(t, p, 50, "a", "b", "c")
	wantFree(t, p, false, "d", "")
	wantFree(t, p, true, "b")
	wantFree(t, p, false, "b", "b")
	wantCount(t, p, 2)
	wantUnowned(t, p, 51, 53)
	wantHasNone(t, p, "b")
	wantHas(t, p, "a", 50)
	wantHas(t, p, "c", 52)
	wantTake(t, p, 51, "d")
	wantTake(t, p, 53, "b")
	wantHas(t, p, "b", 53)
	wantFull(t, p, "e")
	wantCount(t, p, 4)
}

func TestLeastFirst(t *testing.T) { // P5.2: the least one that nobody has, in whatever order they were freed
	orders := []string{"abcd", "dcba", "bdac", "cadb", "dabc", "bcda", "acbd"}
	for _, order := range orders {
		p := pool(t, 16, 6)
		wantTake(t, p, 16, "x", "a", "b", "c", "d")
		for _, owner := range strings.Split(order, "") {
			wantFree(t, p, true, owner)
		}
		wantTake(t, p, 17, "1", "2", "3", "4", "5")
		wantFull(t, p, "6", "a", "d")
		wantHas(t, p, "x", 16)
	}
	p := pool(t, 16, 5)
	wantTake(t, p, 16, "a", "b", "c", "d")
	wantFree(t, p, true, "d", "b")
	wantTake(t, p, 17, "e")
	wantFree(t, p, true, "a")
	wantTake(t, p, 16, "f")
	wantTake(t, p, 19, "g", "h") // first the freed one, then the one that nobody had yet
	wantFull(t, p, "a")
}

func TestOwner(t *testing.T) { // P5.3: also of labels that are not the pool's
	p := pool(t, 1000, 3)
	wantTake(t, p, 1000, "a", "b", "c")
	for _, n := range append([]int{0, 1, 2, 15, 16, 999, 1003, 1000 - 1<<32, 1000 + 1<<32, 1000 - 1<<20, 1000 + 1<<20, most}, oddNumbers...) {
		wantUnowned(t, p, n)
	}
	wantHas(t, p, "a", 1000)
	wantHas(t, p, "b", 1001)
	wantHas(t, p, "c", 1002)
	wantFree(t, p, true, "b")
	wantUnowned(t, p, 1001)
	wantHas(t, p, "c", 1002)
}

func TestAskingChangesNothing(t *testing.T) { // P5.3: Of, Owner, Count give nobody a label
	p := pool(t, 16, 2)
	for range 3 {
		wantHasNone(t, p, "a", "b", "")
		wantUnowned(t, p, 15, 16, 17, 18)
		wantCount(t, p, 0)
	}
	wantTake(t, p, 16, "b", "a")
}

func TestClear(t *testing.T) { // P5.3: nobody has one, and the first one is the least again
	p := pool(t, 20, 3)
	p.Clear()
	wantCount(t, p, 0)
	wantTake(t, p, 20, "a", "b", "c")
	for _, freed := range []string{"", "b", "c", "a"} { // with none to spare, and with some
		p.Free(freed)
		p.Clear()
		wantCount(t, p, 0)
		wantHasNone(t, p, "a", "b", "c")
		wantUnowned(t, p, 20, 21, 22)
		wantFree(t, p, false, "a", "b", "c")
		wantTake(t, p, 20, "c", "", "a")
		wantFull(t, p, "b")
		wantCount(t, p, 3)
		p.Clear()
		p.Clear()
		wantTake(t, p, 20, "a", "b", "c")
		wantFull(t, p, "d")
	}
}

func TestPoolsApart(t *testing.T) { // W2: two of the same labels know nothing of each other
	p, q := pool(t, 16, 2), pool(t, 16, 2)
	wantTake(t, p, 16, "a", "b")
	wantFull(t, p, "c")
	wantCount(t, q, 0)
	wantHasNone(t, q, "a", "b")
	wantUnowned(t, q, 16, 17)
	wantTake(t, q, 16, "b", "c")
	wantHas(t, p, "b", 17)
	wantFree(t, q, true, "b")
	wantHas(t, p, "b", 17)
	p.Clear()
	wantHas(t, q, "c", 17)
	wantCount(t, q, 1)
	wantTake(t, q, 16, "d")
	wantTake(t, p, 16, "d", "c")
}

func TestFullChangesNothing(t *testing.T) { // P5.2, W3
	p := pool(t, 16, 2)
	wantTake(t, p, 16, "a", "b")
	for range 3 {
		wantFull(t, p, "c", "")
		wantHasNone(t, p, "c", "")
		wantCount(t, p, 2)
	}
	wantFree(t, p, false, "c")
	wantFree(t, p, true, "b")
	wantTake(t, p, 17, "c")
	wantHas(t, p, "c", 17)
	wantHas(t, p, "a", 16)
}

func TestNamesAreCopies(t *testing.T) { // W6: a name that is cut of a text does not keep the text
	text := strings.Repeat("name", 1000)
	p := pool(t, 16, 1)
	name := text[4:8]
	wantTake(t, p, 16, name)
	if got, _ := p.Owner(16); got != "name" || unsafe.StringData(got) == unsafe.StringData(name) {
		t.Errorf("Owner: %q, or the memory that was handed in", got)
	}
}
