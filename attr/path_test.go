package attr_test

import (
	"testing"

	"vinery/api"
)

func TestReadPaths(t *testing.T) { // P9.3: up to MaxSegments, of 1 to MaxPath ASs
	for _, segments := range []int{0, 1, 2, mostSegments - 1, mostSegments} {
		for _, ases := range []int{1, 2, 254, mostAS} {
			p, b := pathOf(segments, ases)
			want := nothing()
			want.Path = p
			wantTaken(t, path, b, want)
		}
	}
	for _, segments := range []int{mostSegments + 1, mostSegments + 2, 2 * mostSegments, 1000} {
		for _, ases := range []int{1, 2, mostAS} {
			_, b := pathOf(segments, ases)
			wantRefused(t, path, b)
		}
	}
	want := nothing()
	want.Path = []api.Segment{{AS: []int{mostNumber, 0, 1 << 24}}, {Set: true, AS: []int{16909060}}}
	wantTaken(t, path, []byte{2, 3, 255, 255, 255, 255, 0, 0, 0, 0, 1, 0, 0, 0, 1, 1, 1, 2, 3, 4}, want)
}

func TestReadSegmentKinds(t *testing.T) { // P9.3: 1 a Set, 2 not; no other one
	for _, place := range []int{0, 1, 2} {
		for kind := range 256 {
			p, b := pathOf(3, 2)
			b[10*place] = byte(kind)
			p[place].Set = kind == 1
			want := nothing()
			want.Path = p
			if kind == 1 || kind == 2 {
				wantTaken(t, path, b, want)
			} else {
				wantRefused(t, path, b)
			}
		}
	}
}

func TestReadSegmentsWithoutASs(t *testing.T) { // P9.3: a count of 0, in each place
	p, b := pathOf(2, 1)
	for _, kind := range []byte{0, 1, 2, 3} {
		empty := []byte{kind, 0}
		wantRefused(t, path, empty, rows(empty, empty), rows(empty, b), rows(b[:6], empty, b[6:]), rows(b, empty), times(mostSegments, empty...))
	}
	want := nothing()
	want.Path = p
	wantTaken(t, path, b, want)
}

func TestReadPathsCutOff(t *testing.T) { // P9.3: in each place but between segments; and with counts that are too great or small
	p, b := pathOf(4, 3)
	for n := range len(b) + 1 {
		want := nothing()
		want.Path = p[:n/14]
		if n%14 == 0 {
			wantTaken(t, path, b[:n], want)
		} else {
			wantRefused(t, path, b[:n])
		}
	}
	for place := range p {
		for _, count := range []byte{1, 2, 4, 5, 13, 254, 255} {
			_, b := pathOf(4, 3)
			b[14*place+1] = count
			wantRefused(t, path, b)
		}
	}
	for _, behind := range [][]byte{{0}, {1}, {2}, {2, 1}, {2, 1, 0}, {2, 1, 0, 0, 0}, {2, 255}} {
		wantRefused(t, path, rows(b, behind))
		_, full := pathOf(mostSegments, 1)
		wantRefused(t, path, rows(full, behind))
	}
}
