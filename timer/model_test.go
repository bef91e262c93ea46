package timer_test

import (
	"slices"

	"vinery/api"
)

// due is a timer of the model: with which tick of all it comes. (No sum of ticks wraps round in 64 bits without a sign.)
type due struct {
	name string
	tick uint64
}

// model are timers as the chapter's words say it: ticks are counted, and each timer knows its last one; they stand by their names.
type model struct {
	now    uint64
	timers []due
}

func (m *model) place(name string) (int, bool) {
	return slices.BinarySearchFunc(m.timers, name, func(d due, name string) int {
		switch {
		case d.name < name:
			return -1
		case d.name > name:
			return 1
		}
		return 0
	})
}

func (m *model) start(name string, ticks int) api.Errno {
	if ticks <= 0 {
		return errArg
	}
	one := due{name, m.now + uint64(ticks)}
	i, is := m.place(name)
	switch {
	case is:
		m.timers[i] = one
	case len(m.timers) == most:
		return errFull
	default:
		m.timers = slices.Insert(m.timers, i, one)
	}
	return 0
}

func (m *model) stop(name string) bool {
	i, is := m.place(name)
	if is {
		m.timers = slices.Delete(m.timers, i, i+1)
	}
	return is
}

func (m *model) left(name string) (int, bool) {
	i, is := m.place(name)
	if !is {
		return 0, false
	}
	return int(m.timers[i].tick - m.now), true
}

func (m *model) tick() []string {
	m.now++
	var out []string
	var rest []due
	for _, d := range m.timers {
		if d.tick == m.now {
			out = append(out, d.name)
			continue
		}
		rest = append(rest, d)
	}
	m.timers = rest
	return out
}

func (m *model) next() (int, bool) {
	var all []int
	for _, d := range m.timers {
		all = append(all, int(d.tick-m.now))
	}
	if len(all) == 0 {
		return 0, false
	}
	return slices.Min(all), true
}

func (m *model) clear() { m.timers = nil }
