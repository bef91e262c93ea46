package label_test

import (
	"math/rand/v2"
	"slices"
	"strconv"
	"testing"

	"vinery/api"
	"vinery/label"
)

// slot is a label of the model: it is had by somebody, or by nobody.
type slot struct {
	owner string
	had   bool
}

// model is a pool as the chapter's words say it: each label in its place, gone over from the first one on.
type model struct {
	first int
	slots []slot
}

// place is where an owner's label stands; -1 of none.
func (m *model) place(owner string) int { return slices.Index(m.slots, slot{owner, true}) }

// room is where the first label stands that nobody has; -1 of none.
func (m *model) room() int { return slices.Index(m.slots, slot{}) }

func (m *model) take(owner string) (int, api.Errno) {
	i := m.place(owner)
	if i < 0 {
		i = m.room()
	}
	if i < 0 {
		return 0, api.ErrFull
	}
	m.slots[i] = slot{owner, true}
	return m.first + i, api.OK
}

func (m *model) free(owner string) bool {
	i := m.place(owner)
	if i >= 0 {
		m.slots[i] = slot{}
	}
	return i >= 0
}

// wantAs wants a pool to tell of all owners and labels what the model does.
func wantAs(t *testing.T, p *label.Pool, m *model, owners []string) {
	t.Helper()
	count := 0
	for i, s := range m.slots {
		if owner, has := p.Owner(m.first + i); owner != s.owner || has != s.had {
			t.Fatalf("Owner(%d): %q, %v, want %v", m.first+i, owner, has, s)
		}
		if s.had {
			count++
		}
	}
	wantCount(t, p, count)
	wantUnowned(t, p, m.first-1, m.first+len(m.slots))
	for _, owner := range owners {
		i := m.place(owner)
		if i < 0 {
			wantHasNone(t, p, owner)
			continue
		}
		wantHas(t, p, owner, m.first+i)
	}
}

// step does the same thing to both, and wants the same answer.
func step(t *testing.T, r *rand.Rand, p *label.Pool, m *model, owners []string) {
	t.Helper()
	owner := owners[r.IntN(len(owners))]
	switch kind := r.IntN(40); {
	case kind == 0:
		p.Clear()
		clear(m.slots)
	case kind < 18:
		if got, want := p.Free(owner), m.free(owner); got != want {
			t.Fatalf("Free(%q): %v, want %v", owner, got, want)
		}
	default:
		n, e := p.Take(owner)
		if want, wantE := m.take(owner); n != want || e != wantE {
			t.Fatalf("Take(%q): %d, %v, want %d, %v", owner, n, e, want, wantE)
		}
	}
}

func TestPoolAsTheModel(t *testing.T) { // P5.2, P5.3, P5.5, W2: in any order of calls
	r := rand.New(rand.NewPCG(1, 2))
	for range 1500 {
		count := 1 + r.IntN(12)
		first := []int{16, 17, 1000, most - count + 1}[r.IntN(4)]
		owners := []string{""}
		for i := range r.IntN(2 * count) {
			owners = append(owners, strconv.Itoa(i))
		}
		p, m := pool(t, first, count), &model{first, make([]slot, count)}
		for range 100 {
			step(t, r, p, m, owners)
			wantAs(t, p, m, owners)
		}
	}
}

func TestWholePool(t *testing.T) { // P5.2, P5.5, W1: all labels that there are, freed in falling and in any order
	const count = most - least + 1
	p := pool(t, least, count)
	name := func(i int) string { return "owner " + strconv.Itoa(i) }
	for i := range count {
		if n, e := p.Take(name(i)); n != least+i || e != api.OK {
			t.Fatalf("Take of the %dth: %d, %v", i, n, e)
		}
	}
	wantFull(t, p, "one more", "")
	wantCount(t, p, count)
	for i := count - 1; i >= 0; i -= 2 {
		if !p.Free(name(i)) {
			t.Fatalf("Free of the %dth", i)
		}
	}
	wantCount(t, p, count/2)
	for _, i := range rand.New(rand.NewPCG(3, 4)).Perm(count / 2) {
		if !p.Free(name(2 * i)) {
			t.Fatalf("Free of the %dth", 2*i)
		}
	}
	wantCount(t, p, 0)
	for i := range count {
		if n, e := p.Take(strconv.Itoa(i)); n != least+i || e != api.OK {
			t.Fatalf("Take behind Free, of the %dth: %d, %v", i, n, e)
		}
	}
	wantFull(t, p, name(0))
	p.Clear()
	wantCount(t, p, 0)
	wantUnowned(t, p, least, least+1, most)
	wantTake(t, p, least, name(7), "7")
}
