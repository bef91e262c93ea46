package label

import (
	"container/heap"
	"strings"

	"vinery/api"
)

// Pool hands labels out. Those from first up to next were had by somebody, and are either in owners or spare; those from next up to end nobody ever had.
type Pool struct {
	first, next, end int
	labels           map[string]int
	owners           map[int]holder
	spare            spare
}

// holder has a label: a struct, as the language's rules would have no strings as a map's values.
type holder struct{ name string }

// New is one of some labels. (Count is held against how many there are from first on, as their sum may wrap round.)
func New(first, count int) (*Pool, api.Errno) {
	if first < api.MinLabel || count < 1 || count > api.MaxLabel-first+1 {
		return nil, api.ErrArg
	}
	return &Pool{first: first, next: first, end: first + count, labels: map[string]int{}, owners: map[int]holder{}}, api.OK
}

// Take gives an owner a label. (The name is kept as a copy, lest a long text be kept that it was cut of.)
func (p *Pool) Take(owner string) (int, api.Errno) {
	if label, has := p.labels[owner]; has {
		return label, api.OK
	}
	if p.Count() == p.end-p.first {
		return 0, api.ErrFull
	}
	label, name := p.least(), strings.Clone(owner)
	p.labels[name], p.owners[label] = label, holder{name}
	return label, api.OK
}

// least takes the least label out of those that nobody has, of which there are some: a spare one is below next.
func (p *Pool) least() int {
	if p.spare.Len() > 0 {
		return heap.Pop(&p.spare).(int)
	}
	p.next++
	return p.next - 1
}

// Free takes it back.
func (p *Pool) Free(owner string) bool {
	label, had := p.labels[owner]
	if !had {
		return false
	}
	delete(p.labels, owner)
	delete(p.owners, label)
	heap.Push(&p.spare, label)
	return true
}

// Of is an owner's.
func (p *Pool) Of(owner string) (int, bool) {
	label, has := p.labels[owner]
	return label, has
}

// Owner is who has a label.
func (p *Pool) Owner(label int) (string, bool) {
	owner, has := p.owners[label]
	return owner.name, has
}

// Count is how many have one.
func (p *Pool) Count() int { return len(p.labels) }

// Clear takes all back.
func (p *Pool) Clear() {
	clear(p.labels)
	clear(p.owners)
	p.next, p.spare = p.first, nil
}
