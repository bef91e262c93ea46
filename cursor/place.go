package cursor

// place stands in bytes that nobody writes: its own copy.
type place struct {
	rest []byte // those ahead of it; a bad one has none
	bad  bool
}

// Left is how many bytes are left.
func (p *place) Left() int { return len(p.rest) }

// Bad tells whether something was not there.
func (p *place) Bad() bool { return p.bad }

// spoil makes it bad, for good.
func (p *place) spoil() { p.rest, p.bad = nil, true }

// step goes behind the next n bytes and answers them, to be read only; it turns bad where they are not there.
func (p *place) step(n int) []byte {
	if n < 0 || n > len(p.rest) {
		p.spoil()
		return nil
	}
	b := p.rest[:n]
	p.rest = p.rest[n:]
	return b
}
