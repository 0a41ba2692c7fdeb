package frame_test

import (
	"bytes"
	"math"
	"math/rand/v2"
	"testing"

	"slipway/api"
	"slipway/frame"
)

// draws is the same row of numbers at each run: a fault that it shows can be looked at again.
func draws() *rand.Rand { return rand.New(rand.NewPCG(3, 1)) }

// someBytes has no byte 0, so that zeros behind it are told from it.
func someBytes(r *rand.Rand, n int) []byte {
	b := make([]byte, n)
	for i := range b {
		b[i] = byte(1 + r.IntN(255))
	}
	return b
}

func someStation(r *rand.Rand) api.Mac { return api.Mac(someBytes(r, 6)) }

func everyone() api.Mac { return api.Mac{255, 255, 255, 255, 255, 255} }

// plainSeal is P3.1's row of bytes, one behind the other.
func plainSeal(f api.Frame) []byte {
	b := []byte{}
	for _, x := range f.Dst {
		b = append(b, x)
	}
	for _, x := range f.Src {
		b = append(b, x)
	}
	b = append(b, byte(f.Kind/256), byte(f.Kind%256))
	b = append(b, f.Data...)
	for len(b) < 60 {
		b = append(b, 0)
	}
	return b
}

// checkSeal holds Seal's answer against the bytes that are wanted, or the error, beside which there are none.
func checkSeal(t *testing.T, f api.Frame, err api.Errno) {
	t.Helper()
	b, e := frame.Seal(f)
	want := []byte(nil)
	if err == api.OK {
		want = plainSeal(f)
	}
	if e != err || !bytes.Equal(b, want) {
		t.Errorf("Seal of kind %d, %d bytes: % x, %d, want % x, %d", f.Kind, len(f.Data), b, e, want, err)
	}
}

// TestErrorNumbers: the section Errors.
func TestErrorNumbers(t *testing.T) {
	_, long := frame.Seal(api.Frame{Kind: 2048, Data: make([]byte, 1501)})
	_, kind := frame.Seal(api.Frame{})
	_, short := frame.Open(nil)
	_, openLong := frame.Open(make([]byte, 1515))
	_, openKind := frame.Open(make([]byte, 60))
	if long != 2 || kind != 30 || short != 5 || openLong != 2 || openKind != 30 {
		t.Errorf("errors: %d %d %d %d %d, want 2 30 5 2 30", long, kind, short, openLong, openKind)
	}
}

// TestSealExample: P3.1, the chapter's table.
func TestSealExample(t *testing.T) {
	b, e := frame.Seal(api.Frame{Dst: everyone(), Src: api.Mac{2, 0, 0, 0, 0, 1}, Kind: 2054, Data: []byte{0x61, 0x62}})
	want := make([]byte, 60)
	copy(want, []byte{255, 255, 255, 255, 255, 255, 2, 0, 0, 0, 0, 1, 8, 6, 0x61, 0x62})
	if e != api.OK || !bytes.Equal(b, want) {
		t.Errorf("Seal: % x, %d, want % x", b, e, want)
	}
}

// TestSealKinds: P3.1: all numbers of 16 bits, and numbers beyond, whose lowest bits would do.
func TestSealKinds(t *testing.T) {
	f := api.Frame{Dst: api.Mac{1, 2, 3, 4, 5, 6}, Src: api.Mac{7, 8, 9, 10, 11, 12}, Data: []byte{13}}
	for kind := range 65536 {
		f.Kind = kind
		err := api.OK
		if kind < 1536 {
			err = api.ErrKind
		}
		checkSeal(t, f, err)
	}
	for _, kind := range []int{-1, -2048, -65536, 2048 - 65536, 65536, 65537, 65536 + 2048, 1<<32 + 2048, math.MaxInt, math.MinInt, math.MinInt + 2048} {
		f.Kind = kind
		checkSeal(t, f, api.ErrKind)
	}
}

// TestSealLengths: P3.1: all lengths of Data up to past the limit; zeros up to 60 bytes, and no more.
func TestSealLengths(t *testing.T) {
	r := draws()
	for n := range 1600 {
		f := api.Frame{Dst: someStation(r), Src: someStation(r), Kind: 2048, Data: someBytes(r, n)}
		err := api.OK
		if n > 1500 {
			err = api.ErrLong
		}
		checkSeal(t, f, err)
		b, _ := frame.Seal(f)
		length := max(60, 14+n)
		if n > 1500 {
			length = 0
		}
		if len(b) != length {
			t.Errorf("Seal of %d bytes: %d, want %d", n, len(b), length)
		}
	}
	checkSeal(t, api.Frame{Kind: 2048, Data: make([]byte, 65536+40)}, api.ErrLong)
	checkSeal(t, api.Frame{Kind: 2048, Data: make([]byte, 1<<20)}, api.ErrLong)
}

// TestSealErrorOrder: P3.1 with R5: a wrong kind comes ahead of too much Data.
func TestSealErrorOrder(t *testing.T) {
	for _, kind := range []int{0, 1535, 65536, -1, math.MinInt, math.MaxInt} {
		checkSeal(t, api.Frame{Kind: kind, Data: make([]byte, 1501)}, api.ErrKind)
	}
	for _, kind := range []int{1536, 65535} {
		checkSeal(t, api.Frame{Kind: kind, Data: make([]byte, 1501)}, api.ErrLong)
		checkSeal(t, api.Frame{Kind: kind, Data: make([]byte, 1500)}, api.OK)
	}
}

// TestSealStations: P3.1: Dst and Src are laid whatever they are, each of their bytes at its place.
func TestSealStations(t *testing.T) {
	stations := []api.Mac{{}, everyone(), {1, 0, 0x5e, 0, 0, 1}, {2, 0, 0, 0, 0, 1}, {255}, {0, 0, 0, 0, 0, 255}, {1, 2, 3, 4, 5, 6}, {0x80, 0x81, 0x82, 0x83, 0x84, 0x85}}
	for _, dst := range stations {
		for _, src := range stations {
			checkSeal(t, api.Frame{Dst: dst, Src: src, Kind: 2054, Data: []byte{9, 9}}, api.OK)
		}
	}
}

// TestSealNoData: R3: nil and an empty list are the same.
func TestSealNoData(t *testing.T) {
	f := api.Frame{Dst: everyone(), Src: api.Mac{2}, Kind: 65535}
	none, e := frame.Seal(f)
	f.Data = []byte{}
	empty, e2 := frame.Seal(f)
	if e != api.OK || e2 != api.OK || !bytes.Equal(none, empty) || len(none) != 60 {
		t.Errorf("Seal of no Data: % x, %d, and % x, %d", none, e, empty, e2)
	}
}
