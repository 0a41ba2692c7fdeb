package frame_test

import (
	"bytes"
	"testing"

	"slipway/api"
	"slipway/frame"
)

func sameFrame(f, g api.Frame) bool {
	return f.Dst == g.Dst && f.Src == g.Src && f.Kind == g.Kind && bytes.Equal(f.Data, g.Data)
}

// checkRefused: an error, beside which the frame is a zero one.
func checkRefused(t *testing.T, b []byte, err api.Errno) {
	t.Helper()
	if f, e := frame.Open(b); e != err || !sameFrame(f, api.Frame{}) {
		t.Errorf("Open of %d bytes: %v, %d, want none, %d", len(b), f, e, err)
	}
}

// checkOpened holds Open's answer against P3.2's places.
func checkOpened(t *testing.T, b []byte) {
	t.Helper()
	want := api.Frame{Kind: int(b[12])*256 + int(b[13]), Data: b[14:]}
	for i := range 6 {
		want.Dst[i], want.Src[i] = b[i], b[6+i]
	}
	if f, e := frame.Open(b); e != api.OK || !sameFrame(f, want) {
		t.Errorf("Open(% x): %v, %d, want %v", b, f, e, want)
	}
}

// bytesOfKind has that kind, and no byte 0 elsewhere.
func bytesOfKind(n, kind int) []byte {
	b := someBytes(draws(), n)
	copy(b[min(n, 12):], []byte{byte(kind >> 8), byte(kind)})
	return b
}

// TestOpenExample: P3.2, the chapter's table.
func TestOpenExample(t *testing.T) {
	b := make([]byte, 60)
	copy(b, []byte{255, 255, 255, 255, 255, 255, 2, 0, 0, 0, 0, 1, 8, 6, 0x61, 0x62})
	data := make([]byte, 46)
	data[0], data[1] = 0x61, 0x62
	want := api.Frame{Dst: everyone(), Src: api.Mac{2, 0, 0, 0, 0, 1}, Kind: 2054, Data: data}
	if f, e := frame.Open(b); e != api.OK || !sameFrame(f, want) {
		t.Errorf("Open: %v, %d, want %v", f, e, want)
	}
	checkRefused(t, make([]byte, 59), api.ErrShort)
	checkRefused(t, make([]byte, 1515), api.ErrLong)
	checkRefused(t, make([]byte, 60), api.ErrKind)
}

// TestOpenLengths: P3.2: all lengths from none up to past the limit.
func TestOpenLengths(t *testing.T) {
	checkRefused(t, nil, api.ErrShort)
	for n := range 1600 {
		b := bytesOfKind(n, 2048)
		switch {
		case n < 60:
			checkRefused(t, b, api.ErrShort)
		case n > 1514:
			checkRefused(t, b, api.ErrLong)
		default:
			checkOpened(t, b)
		}
	}
	checkRefused(t, bytesOfKind(1<<20, 2048), api.ErrLong)
}

// TestOpenLengthIsNotCapacity: what lies behind the bytes that are handed in is not theirs.
func TestOpenLengthIsNotCapacity(t *testing.T) {
	room := bytesOfKind(2000, 2048)
	checkRefused(t, room[:59], api.ErrShort)
	checkOpened(t, room[:60])
	checkOpened(t, room[:1514])
	checkRefused(t, room[:1515], api.ErrLong)
}

// TestOpenKinds: P3.2: all numbers of 16 bits, in the shortest frame and in the longest.
func TestOpenKinds(t *testing.T) {
	for _, n := range []int{60, 1514} {
		b := bytesOfKind(n, 0)
		for kind := range 65536 {
			b[12], b[13] = byte(kind>>8), byte(kind)
			if kind < 1536 {
				checkRefused(t, b, api.ErrKind)
			} else if f, e := frame.Open(b); e != api.OK || f.Kind != kind {
				t.Errorf("Open of kind %d: %d, %d", kind, f.Kind, e)
			}
		}
	}
}

// TestOpenErrorOrder: P3.2 with R5: a wrong length comes ahead of a wrong kind.
func TestOpenErrorOrder(t *testing.T) {
	for _, kind := range []int{0, 1535, 1536, 65535} {
		for _, n := range []int{0, 1, 12, 13, 14, 59} {
			checkRefused(t, bytesOfKind(n, kind), api.ErrShort)
		}
		for _, n := range []int{1515, 3000} {
			checkRefused(t, bytesOfKind(n, kind), api.ErrLong)
		}
	}
	checkRefused(t, bytesOfKind(60, 1535), api.ErrKind)
	checkRefused(t, bytesOfKind(1514, 1535), api.ErrKind)
}

// TestOpenStations: P3.2: every Dst and every Src is told, group addresses and everyone among them.
func TestOpenStations(t *testing.T) {
	b := bytesOfKind(60, 2054)
	for place := range 12 {
		for x := range 256 {
			b[place] = byte(x)
			checkOpened(t, b)
		}
		b[place] = byte(17*place + 1) // each place another, so that none is taken for its neighbour
	}
	for _, x := range []byte{0, 255} {
		copy(b, bytes.Repeat([]byte{x}, 12))
		checkOpened(t, b)
	}
}

// TestOpenOfSeal: P3.4: the frame comes back, its Data with zeros behind up to 46 bytes.
func TestOpenOfSeal(t *testing.T) {
	r := draws()
	for n := range 1501 {
		f := api.Frame{Dst: someStation(r), Src: someStation(r), Kind: 1536 + r.IntN(64000), Data: someBytes(r, n)}
		b, e := frame.Seal(f)
		if e != api.OK {
			t.Fatalf("Seal of %d bytes: %d", n, e)
		}
		want := f
		want.Data = make([]byte, max(n, 46))
		copy(want.Data, f.Data)
		if got, e := frame.Open(b); e != api.OK || !sameFrame(got, want) {
			t.Errorf("Open of Seal of %v: %v, %d", f, got, e)
		}
	}
}

// TestSealOfOpen: P3.4: the bytes come back, whatever they are.
func TestSealOfOpen(t *testing.T) {
	r := draws()
	for n := 60; n <= 1514; n++ {
		b := someBytes(r, n)
		clear(b[14+r.IntN(n-13):]) // zeros at the end are Data like any
		kind := 1536 + r.IntN(64000)
		b[12], b[13] = byte(kind>>8), byte(kind)
		f, e := frame.Open(b)
		if e != api.OK {
			t.Fatalf("Open of %d bytes: %d", n, e)
		}
		if back, e := frame.Seal(f); e != api.OK || !bytes.Equal(back, b) {
			t.Errorf("Seal of Open of % x: % x, %d", b, back, e)
		}
	}
}

// TestSealedFitsACard: P3.4: a card takes what has 60 to 1514 bytes.
func TestSealedFitsACard(t *testing.T) {
	for n := range 1501 {
		b, _ := frame.Seal(api.Frame{Kind: 65535, Data: make([]byte, n)})
		if len(b) < api.MinFrame || len(b) > api.MaxFrame {
			t.Errorf("Seal of %d bytes: %d bytes, which no card takes", n, len(b))
		}
	}
}
