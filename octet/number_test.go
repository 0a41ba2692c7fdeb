package octet_test

import (
	"bytes"
	"math"
	"math/rand/v2"
	"testing"

	"slipway/api"
	"slipway/octet"
)

// draws is the same row of numbers at each run: a fault that it shows can be looked at again.
func draws() *rand.Rand { return rand.New(rand.NewPCG(1, 2)) }

func someBytes(r *rand.Rand, n int) []byte {
	b := make([]byte, n)
	for i := range b {
		b[i] = byte(r.Uint32())
	}
	return b
}

// TestErrorNumbers: the section Errors.
func TestErrorNumbers(t *testing.T) {
	_, wrong := octet.Get(nil, 0, 0)
	_, short := octet.Get(nil, 0, 1)
	_, dotted := octet.Undotted("x")
	_, colons := octet.Uncolons("x")
	if wrong != 1 || short != 5 || dotted != 10 || colons != 10 {
		t.Errorf("errors: %d %d %d %d, want 1 5 10 10", wrong, short, dotted, colons)
	}
}

// TestPut: P1.1.
func TestPut(t *testing.T) {
	const n = 0x0102030405060708
	for _, x := range []struct {
		n     uint64
		width int
		want  []byte
	}{
		{258, 2, []byte{1, 2}},
		{258, 1, []byte{2}},
		{1, 0, nil},
		{1, 9, nil},
		{1, -1, nil},
		{1, math.MinInt, nil},
		{1, math.MaxInt, nil},
		{0, 1, []byte{0}},
		{0, 8, make([]byte, 8)},
		{1, 4, []byte{0, 0, 0, 1}},
		{n, 1, []byte{8}},
		{n, 2, []byte{7, 8}},
		{n, 3, []byte{6, 7, 8}},
		{n, 4, []byte{5, 6, 7, 8}},
		{n, 5, []byte{4, 5, 6, 7, 8}},
		{n, 6, []byte{3, 4, 5, 6, 7, 8}},
		{n, 7, []byte{2, 3, 4, 5, 6, 7, 8}},
		{n, 8, []byte{1, 2, 3, 4, 5, 6, 7, 8}},
		{math.MaxUint64, 8, bytes.Repeat([]byte{255}, 8)},
		{math.MaxUint64, 3, bytes.Repeat([]byte{255}, 3)},
		{0x0a000005, 4, []byte{10, 0, 0, 5}},
	} {
		if got := octet.Put(x.n, x.width); !bytes.Equal(got, x.want) {
			t.Errorf("Put(%x, %d): % x, want % x", x.n, x.width, got, x.want)
		}
	}
}

// TestPutIsNewMemory: P1.1 with R2: no two answers share any memory, spare room neither.
func TestPutIsNewMemory(t *testing.T) {
	for width := 1; width <= 8; width++ {
		one, two := octet.Put(0, width), octet.Put(0, width)
		one = one[:cap(one)]
		for i := range one {
			one[i] = 0xee
		}
		two = two[:cap(two)]
		if bytes.IndexByte(two, 0xee) >= 0 {
			t.Errorf("Put(0, %d): two answers share memory", width)
		}
	}
}

// TestGet: P1.1, numbers and errors; a wrong width or place comes ahead of short bytes.
func TestGet(t *testing.T) {
	three := []byte{1, 2, 3}
	eight := []byte{1, 2, 3, 4, 5, 6, 7, 8}
	for _, x := range []struct {
		b         []byte
		at, width int
		want      uint64
		err       api.Errno
	}{
		{three, 1, 2, 515, api.OK},
		{three, 0, 1, 1, api.OK},
		{three, 0, 3, 0x010203, api.OK},
		{three, 2, 1, 3, api.OK},
		{eight, 0, 8, 0x0102030405060708, api.OK},
		{eight, 0, 7, 0x01020304050607, api.OK},
		{eight, 3, 5, 0x0405060708, api.OK},
		{bytes.Repeat([]byte{255}, 9), 1, 8, math.MaxUint64, api.OK},
		{three, 2, 2, 0, api.ErrShort},
		{three, 3, 1, 0, api.ErrShort},
		{three, 0, 4, 0, api.ErrShort},
		{three, 0, 8, 0, api.ErrShort},
		{eight, 1, 8, 0, api.ErrShort},
		{[]byte{1}, 7, 1, 0, api.ErrShort},
		{nil, 0, 1, 0, api.ErrShort},
		{[]byte{}, 0, 1, 0, api.ErrShort},
		{three, math.MaxInt, 1, 0, api.ErrShort},
		{three, math.MaxInt, 8, 0, api.ErrShort},
		{three, math.MaxInt - 7, 8, 0, api.ErrShort},
		{[]byte{1}, 0, 9, 0, api.ErrArg},
		{[]byte{1}, -1, 1, 0, api.ErrArg},
		{[]byte{1}, 0, 0, 0, api.ErrArg},
		{[]byte{1}, 0, -1, 0, api.ErrArg},
		{bytes.Repeat([]byte{1}, 20), 0, 9, 0, api.ErrArg},
		{three, math.MinInt, 1, 0, api.ErrArg},
		{three, 0, math.MinInt, 0, api.ErrArg},
		{three, 0, math.MaxInt, 0, api.ErrArg},
		{three, math.MaxInt, math.MaxInt, 0, api.ErrArg},
		{nil, -1, 1, 0, api.ErrArg},
		{nil, 7, 0, 0, api.ErrArg},
	} {
		n, e := octet.Get(x.b, x.at, x.width)
		if n != x.want || e != x.err {
			t.Errorf("Get(% x, %d, %d): %d, %d, want %d, %d", x.b, x.at, x.width, n, e, x.want, x.err)
		}
	}
}

// TestGetLeavesSpareRoom: what stands behind the bytes that are handed in is not theirs, and stays as it is.
func TestGetLeavesSpareRoom(t *testing.T) {
	whole := []byte{1, 2, 3, 4}
	if n, e := octet.Get(whole[:2], 1, 2); n != 0 || e != api.ErrShort {
		t.Errorf("Get beyond the end: %d, %d", n, e)
	}
	octet.Get(whole[:2], 0, 2)
	if !bytes.Equal(whole, []byte{1, 2, 3, 4}) {
		t.Errorf("Get changed what was handed in: % x", whole)
	}
}

// TestPutAndGet: P1.7.
func TestPutAndGet(t *testing.T) {
	r := draws()
	for width := 1; width <= 8; width++ {
		most := uint64(math.MaxUint64) >> (64 - 8*width)
		list := []uint64{0, 1, 255, most / 2, most/2 + 1, most - 1, most}
		for range 200 {
			list = append(list, r.Uint64()&most)
		}
		for _, n := range list {
			got, e := octet.Get(octet.Put(n, width), 0, width)
			if got != n || e != api.OK {
				t.Errorf("Get(Put(%x, %d)): %x, %d", n, width, got, e)
			}
		}
		for range 50 {
			b := someBytes(r, 20)
			for at := 0; at+width <= len(b); at++ {
				n, e := octet.Get(b, at, width)
				if e != api.OK || !bytes.Equal(octet.Put(n, width), b[at:at+width]) {
					t.Errorf("Put(Get(% x, %d, %d)): %x, %d", b, at, width, n, e)
				}
			}
		}
	}
}
