package message_test

import (
	"slices"
	"testing"

	"vinery/api"
)

// Opens in bytes: AS 65000, Hold 90, Id 10.0.0.1, and parameters.
func openBytes(params ...[]byte) []byte {
	all := cat(params...)
	return cat([]byte{4, 253, 232, 0, 90, 10, 0, 0, 1, byte(len(all))}, all)
}

// param is a parameter of capabilities.
func param(l ...[]byte) []byte { return capability(2, cat(l...)...) }

// capability is one, or a parameter of any kind.
func capability(number byte, value ...byte) []byte {
	return cat([]byte{number, byte(len(value))}, value)
}

func capFamily(f api.Family) []byte {
	return capability(1, familyBytes[slices.Index(families, f)]...)
}

func capAS(as int) []byte {
	return capability(65, byte(as>>24), byte(as>>16), byte(as>>8), byte(as))
}

// bare is an open without parameters.
func bare() api.Open { return api.Open{AS: 65000, Hold: 90, Id: four1} }

// wantOpen wants a body to be read as an open.
func wantOpen(t *testing.T, b []byte, want api.Open) {
	t.Helper()
	wantBody(t, kindOpen, b, asOpen(want), api.OutOk)
}

// wantEnd wants a body to end the session, of {2 sub}.
func wantEnd(t *testing.T, b []byte, sub int) {
	t.Helper()
	if sub == subVersion {
		wantReset(t, kindOpen, b, 2, 1, 0, 4)
		return
	}
	wantReset(t, kindOpen, b, 2, sub)
}

// The Subs of what ends a session, in the order in which they are looked for; subParam and the second subWhole from the front.
const (
	subWhole   = 0
	subVersion = 1
	subParam   = 4
	subAS      = 2
	subHold    = 6
	subId      = 3
)

// with is a body with other bytes in a place.
func with(b []byte, place int, bytes ...byte) []byte {
	return cat(b[:place], bytes, b[place+len(bytes):])
}

func TestOpenWithoutParameters(t *testing.T) { // P11.3
	wantOpen(t, openBytes(), bare())
	wantOpen(t, openBytes(param()), bare())
	wantOpen(t, openBytes(param(), param(), param()), bare())
	wantOpen(t, []byte{4, 1, 2, 3, 4, 5, 6, 7, 8, 0}, api.Open{AS: 0x0102, Hold: 0x0304, Id: v4(5, 6, 7, 8)})
}

func TestOpenShorter(t *testing.T) { // P11.3: cut off in each place, or longer than it says: ahead of all else
	for _, b := range [][]byte{openBytes(), openBytes(param(capFamily(families[0]), capAS(7))), openBytes(param(), param(capability(9, 1, 2))), make([]byte, 10), {9, 0, 0, 0, 1, 0, 0, 0, 0, 2, 7, 9}} {
		for n := range b {
			wantEnd(t, b[:n], subWhole)
		}
		for _, more := range [][]byte{{0}, {2, 0}, param(capAS(7)), count(5000)} {
			wantEnd(t, cat(b, more), subWhole)
		}
	}
	wantEnd(t, nil, subWhole)
	for says := 1; says < 256; says++ {
		wantEnd(t, with(openBytes(), 9, byte(says)), subWhole)
		wantEnd(t, cat(with(openBytes(), 9, byte(says)), make([]byte, says-1)), subWhole)
		wantEnd(t, cat(with(openBytes(), 9, byte(says)), make([]byte, says+1)), subWhole)
	}
}

func TestOpenVersion(t *testing.T) { // P11.3: ahead of all but the length
	for _, b := range [][]byte{openBytes(), openBytes(param(capAS(7))), openBytes(capability(9)), openBytes(param(capAS(0))), openBytes([]byte{2}), {4, 0, 0, 0, 1, 0, 0, 0, 0, 0}} {
		for v := range 256 {
			if v != 4 {
				wantEnd(t, with(b, 0, byte(v)), subVersion)
			}
		}
	}
	wantEnd(t, []byte{3, 0, 1, 0, 0, 1, 1, 1, 1, 0}, subVersion)
}

func TestOpenParameters(t *testing.T) { // P11.3: of another first byte: what comes first from the front
	good, wrong := param(capFamily(families[1]), capAS(7)), param(capability(1, 0, 1, 0))
	for kind := range 256 {
		if kind == 2 {
			continue
		}
		for _, odd := range [][]byte{capability(byte(kind)), capability(byte(kind), capAS(7)...), {byte(kind), 200}, {byte(kind), 1}, {byte(kind)}} {
			wantEnd(t, openBytes(odd), subParam)
			wantEnd(t, openBytes(good, odd), subParam)
			wantEnd(t, openBytes(param(), odd), subParam)
			wantEnd(t, openBytes(param(capAS(0)), odd), subParam)
			wantEnd(t, openBytes(wrong, odd), subWhole)
			wantEnd(t, with(openBytes(good, odd), 2, 0, 0, 0, 1, 0, 0), subParam)
		}
		for _, behind := range [][]byte{good, wrong, {2}, {2, 9}, {7}} {
			wantEnd(t, openBytes(capability(byte(kind), 1, 2), behind), subParam)
		}
	}
}

func TestOpenBeyondTheEnd(t *testing.T) { // P11.3: of a parameter, of a capability, in each place
	whole := [][]byte{capability(9), capability(9, 1, 2, 3), capFamily(families[0]), capAS(7), capability(2), capability(2, 5), capability(0, 0)}
	for _, one := range whole {
		for n := 1; n < len(one); n++ {
			wantEnd(t, openBytes(param(one[:n])), subWhole)
			wantEnd(t, openBytes(param(whole[1], one[:n])), subWhole)
			wantEnd(t, openBytes(param(one[:n]), param()), subWhole) // none reads past its parameter
			wantEnd(t, openBytes(param(one[:n]), one[n:]), subWhole)
			wantEnd(t, openBytes(param(capAS(0), one[:n])), subWhole)
		}
		for n := 1; n < len(param(one)); n++ {
			wantEnd(t, openBytes(param(one)[:n]), subWhole)
			wantEnd(t, openBytes(param(), param(one)[:n]), subWhole)
			wantEnd(t, openBytes(param(capAS(0)), param(one)[:n]), subWhole)
		}
		for _, beyond := range []int{1, 2, 127, 255 - len(one)} {
			wantEnd(t, openBytes(with(param(one), 1, byte(len(one)+beyond))), subWhole)
			wantEnd(t, openBytes(param(with(one, 1, one[1]+byte(beyond)))), subWhole)
		}
	}
}

func TestOpenCapabilitiesOfAnotherLength(t *testing.T) { // P11.3: 1 and 65 have four bytes; ahead of what comes behind
	for _, number := range []byte{1, 65} {
		for _, n := range []int{0, 1, 2, 3, 5, 6, 7, 8, 200} {
			odd := capability(number, count(n)...)
			for _, rest := range [][]byte{nil, capAS(7), capFamily(families[0]), {9}, {1, 4}} {
				wantEnd(t, openBytes(param(odd, rest)), subWhole)
				wantEnd(t, openBytes(param(odd, rest), capability(7)), subWhole)
			}
			for _, rest := range [][]byte{capAS(7), capAS(0), capability(9, 1, 2), capability(2)} {
				wantEnd(t, openBytes(param(rest, odd)), subWhole)
				wantEnd(t, openBytes(param(rest), param(odd)), subWhole)
			}
			wantEnd(t, openBytes(param(capability(number, append([]byte{0, 1, 0, multi}, count(max(n, 1))...)...))), subWhole)
		}
	}
}

func TestOpenASIsRead(t *testing.T) { // P11.3: that of the last capability 65, else the two bytes
	o := bare()
	for _, as := range []int{1, 255, 256, 23456, 65000, 65535, 65536, 1<<24 + 2, 1<<31 - 1, 1 << 31, 1<<32 - 1} {
		o.AS = as
		for _, first := range [][]byte{{0, 0}, {0, 1}, {91, 160}, {255, 255}, {byte(as >> 8), byte(as)}} {
			wantOpen(t, with(openBytes(param(capAS(as))), 1, first...), o)
			wantOpen(t, with(openBytes(param(capAS(0), capAS(as))), 1, first...), o)
			wantOpen(t, with(openBytes(param(capAS(9)), param(capAS(as))), 1, first...), o)
			wantOpen(t, with(openBytes(param(capAS(9), capAS(8), capAS(as), capability(2))), 1, first...), api.Open{AS: as, Hold: 90, Id: four1, Refresh: true})
			wantEnd(t, with(openBytes(param(capAS(as), capAS(0))), 1, first...), subAS)
			wantEnd(t, with(openBytes(param(capAS(as)), param(capAS(0))), 1, first...), subAS)
			wantEnd(t, with(openBytes(param(capAS(0))), 1, first...), subAS)
		}
	}
	for as := 1; as < 65536; as += 77 {
		o.AS = as
		wantOpen(t, with(openBytes(), 1, byte(as>>8), byte(as)), o)
		wantOpen(t, with(openBytes(param(capability(64, 0, 0, 0, 9), capability(66, 0, 0, 0, 9))), 1, byte(as>>8), byte(as)), o)
	}
	wantEnd(t, with(openBytes(), 1, 0, 0), subAS)
	wantEnd(t, with(openBytes(param(capFamily(families[0]))), 1, 0, 0), subAS)
}

func TestOpenHoldIsRead(t *testing.T) { // P11.3: 0, and 3 on
	o := bare()
	for _, hold := range []int{0, 3, 4, 90, 255, 256, 257, 258, 512, 65535} {
		o.Hold = hold
		wantOpen(t, with(openBytes(), 3, byte(hold>>8), byte(hold)), o)
	}
	for _, hold := range []byte{1, 2} {
		wantEnd(t, with(openBytes(), 3, 0, hold), subHold)
		wantEnd(t, with(openBytes(param(capAS(7))), 3, 0, hold), subHold)
		wantEnd(t, with(openBytes(), 3, 0, hold, 0, 0, 0, 0), subHold)
		wantEnd(t, with(openBytes(param(capAS(0))), 3, 0, hold, 0, 0, 0, 0), subAS)
		wantEnd(t, with(openBytes(), 1, 0, 0, 0, hold), subAS)
		wantEnd(t, with(openBytes(capability(3)), 3, 0, hold), subParam)
		wantEnd(t, with(openBytes(param(capability(65))), 3, 0, hold), subWhole)
	}
}

func TestOpenIdIsRead(t *testing.T) { // P11.3: any but 0.0.0.0
	o := bare()
	for _, id := range []api.Addr{v4(0, 0, 0, 1), v4(1, 0, 0, 0), v4(0, 1, 0, 0), v4(0, 0, 1, 0), v4(1, 2, 3, 4), v4(224, 0, 0, 1), v4(255, 255, 255, 255)} {
		o.Id = id
		wantOpen(t, with(openBytes(), 5, id.B[:4]...), o)
	}
	wantEnd(t, with(openBytes(), 5, 0, 0, 0, 0), subId)
	wantEnd(t, with(openBytes(param(capAS(7))), 5, 0, 0, 0, 0), subId)
	wantEnd(t, with(openBytes(), 3, 0, 0, 0, 0, 0, 0), subId)
	wantEnd(t, with(openBytes(), 1, 0, 0, 0, 90, 0, 0, 0, 0), subAS)
	wantEnd(t, with(openBytes(capability(0)), 5, 0, 0, 0, 0), subParam)
	wantEnd(t, with(openBytes(param([]byte{7})), 5, 0, 0, 0, 0), subWhole)
}

func TestOpenFamiliesAreRead(t *testing.T) { // P11.3: each once, in the order in which it comes first; the third byte is not looked at
	o := bare()
	for _, f := range families {
		o.Families = []api.Family{f}
		for third := range 256 {
			wantOpen(t, openBytes(param(with(capFamily(f), 4, byte(third)))), o)
			wantOpen(t, openBytes(param(capFamily(f), with(capFamily(f), 4, byte(third)))), o)
		}
		wantOpen(t, openBytes(param(capFamily(f)), param(capFamily(f))), o)
		for _, g := range families {
			if g == f {
				continue
			}
			o.Families = []api.Family{g, f}
			wantOpen(t, openBytes(param(capFamily(g), capFamily(f), capFamily(g))), o)
			wantOpen(t, openBytes(param(capFamily(g), capFamily(g)), param(capFamily(f), capFamily(g))), o)
			wantOpen(t, openBytes(param(capFamily(g)), param(), param(capAS(65000), capFamily(f)), param(capFamily(f))), o)
			o.Families = []api.Family{f}
		}
	}
	o.Families = []api.Family{families[3], families[1], families[0], families[2]}
	wantOpen(t, openBytes(param(capFamily(families[3]), capFamily(families[1]), capFamily(families[0]), capFamily(families[2]), capFamily(families[0]), capFamily(families[3]))), o)
}

func TestOpenFamiliesThatAreNotKnown(t *testing.T) { // P11.3: they are passed
	o := bare()
	for first := range 256 {
		for second := range 256 {
			if first > 2 && second > 2 && (first+second)%32 > 0 {
				continue
			}
			for _, safi := range []byte{0, 1, multi, private, 129} {
				if first == 0 && (second == 1 || second == 2) && (safi == multi || safi == private) {
					continue
				}
				wantOpen(t, openBytes(param(capability(1, byte(first), byte(second), 0, safi))), o)
			}
		}
	}
	o.Families = families[1:3]
	odd := capability(1, 0, 3, 0, multi)
	wantOpen(t, openBytes(param(odd, capFamily(families[1]), odd, capability(1, 1, 1, 0, multi), capFamily(families[2]), odd)), o)
}

func TestOpenRefreshIsRead(t *testing.T) { // P11.3: capability 2, with bytes and without, wherever it stands
	o := bare()
	o.Refresh = true
	for _, n := range []int{0, 1, 2, 3, 4, 5, 200} {
		wantOpen(t, openBytes(param(capability(2, count(n)...))), o)
		wantOpen(t, openBytes(param(), param(capability(9), capability(2, count(n)...), capability(9, 1))), o)
	}
	wantOpen(t, openBytes(param(capability(2), capability(2))), o)
}

func TestOpenOtherCapabilities(t *testing.T) { // P11.3: they are passed, whatever they say
	o := bare()
	for number := range 256 {
		if number == 1 || number == 2 || number == 65 {
			continue
		}
		for _, n := range []int{0, 1, 2, 3, 4, 5, 240} {
			wantOpen(t, openBytes(param(capability(byte(number), count(n)...))), o)
		}
		wantOpen(t, openBytes(param(capability(byte(number), 0, 1, 0, multi)), param(capability(byte(number), 65, 4, 0))), o)
	}
}

func TestOpenManyParameters(t *testing.T) { // P11.3: as many as have place
	o := bare()
	l := slices.Repeat([][]byte{param()}, 127)
	wantOpen(t, openBytes(l...), o)
	o.AS, o.Refresh, o.Families = 7, true, families[:1]
	l = cat([][]byte{param(capAS(9)), param(capability(2)), param(capFamily(families[0]))}, slices.Repeat([][]byte{param(capability(9))}, 50), [][]byte{param(capAS(7))})
	wantOpen(t, openBytes(l...), o)
}
