package inet_test

import (
	"bytes"
	"math"
	"testing"

	"slipway/api"
	"slipway/inet"
)

// TestErrorNumbers: the section Errors.
func TestErrorNumbers(t *testing.T) {
	var got []api.Errno
	_, arg := inet.Encode(api.Ip{}, nil)
	_, long := inet.Encode(chapterHead(), make([]byte, 1481))
	got = append(got, arg, long)
	changes := []func(b []byte){
		func(b []byte) { b[0] = 0x55 },
		func(b []byte) { b[0] = 0x46 },
		func(b []byte) { b[0] = 0x44 },
		func(b []byte) { b[11] ^= 1 },
		func(b []byte) { b[7] = 1; mend(b) },
		func(b []byte) { b[8] = 0; mend(b) },
		func(b []byte) {},
	}
	_, _, short := inet.Decode(nil)
	got = append(got, short)
	for _, change := range changes {
		b := chapterBytes()
		change(b)
		_, _, e := inet.Decode(b)
		got = append(got, e)
	}
	for i, want := range []api.Errno{1, 2, 5, 90, 91, 92, 93, 94, 95, 0} {
		if got[i] != want {
			t.Errorf("error %d: %d, want %d", i, got[i], want)
		}
	}
}

// TestEncodeExamples: P9.1, the chapter's table.
func TestEncodeExamples(t *testing.T) {
	h := chapterHead()
	if b, e := inet.Encode(h, []byte{0x61, 0x62}); e != api.OK || !bytes.Equal(b, chapterBytes()) {
		t.Errorf("Encode: % x, %d, want % x", b, e, chapterBytes())
	}
	noTtl, wideId, noTos := h, h, h
	noTtl.Ttl, wideId.Id, noTos.Tos = 0, 65536, -1
	for _, wrong := range []api.Ip{noTtl, wideId, noTos} {
		checkUnlaid(t, wrong, nil, api.ErrArg)
		checkUnlaid(t, wrong, []byte{0x61, 0x62}, api.ErrArg)
	}
	if b, e := inet.Encode(h, make([]byte, 1480)); e != api.OK || len(b) != 1500 {
		t.Errorf("Encode of 1480 bytes: %d, %d", len(b), e)
	}
	checkUnlaid(t, h, make([]byte, 1481), api.ErrLong)
}

// TestEncodePlaces: P9.1, the form: each byte at its place, none taken for its neighbour.
func TestEncodePlaces(t *testing.T) {
	h := api.Ip{Tos: 0x11, Id: 0x1415, Ttl: 0x18, Proto: 0x19, Src: 0x2c2d2e2f, Dst: 0x30313233}
	data := bytes.Repeat([]byte{0x77}, 0x101)
	want := []byte{
		0x45, 0x11, 0x01, 0x15, 0x14, 0x15, 0, 0, 0x18, 0x19, 0xd0, 0xea,
		0x2c, 0x2d, 0x2e, 0x2f, 0x30, 0x31, 0x32, 0x33,
	}
	b, e := inet.Encode(h, data)
	if e != api.OK || !bytes.Equal(b, append(want, data...)) {
		t.Errorf("Encode: % x, %d, want % x", b, e, want)
	}
}

// TestEncodeKeep: P9.1: 4000 or 0 in the bytes 6 and 7, whatever else the head has.
func TestEncodeKeep(t *testing.T) {
	for _, h := range edgeHeads() {
		for keep, want := range map[bool]byte{true: 0x40, false: 0} {
			h.Keep = keep
			b, e := inet.Encode(h, nil)
			if e != api.OK || b[6] != want || b[7] != 0 {
				t.Errorf("Encode(%v): % x, %d", h, b, e)
			}
		}
	}
}

// numbers are each field of a head that may be out of its bounds, and these.
func numbers() []struct {
	lay         func(h *api.Ip, n int)
	least, most int
} {
	return []struct {
		lay         func(h *api.Ip, n int)
		least, most int
	}{
		{func(h *api.Ip, n int) { h.Tos = n }, 0, 255},
		{func(h *api.Ip, n int) { h.Id = n }, 0, 65535},
		{func(h *api.Ip, n int) { h.Ttl = n }, 1, 255},
		{func(h *api.Ip, n int) { h.Proto = n }, 0, 255},
	}
}

// strangeNumbers are beyond all bounds, though the lowest bits of some are not.
func strangeNumbers() []int {
	return []int{-1, -2, -255, -256, -65535, -65536, 65536, 65537, 65600, 1 << 31, 1<<32 + 1, 1<<32 + 64, 1<<48 + 1, math.MaxInt, math.MaxInt - 1, math.MinInt, math.MinInt + 1, math.MinInt + 64}
}

// TestEncodeNumbers: P9.1: each number within its bounds, at them, one past them, and far off.
func TestEncodeNumbers(t *testing.T) {
	for _, x := range numbers() {
		for n := -300; n <= 66000; n++ {
			h := chapterHead()
			if x.lay(&h, n); n >= x.least && n <= x.most {
				checkEncode(t, h, []byte{0x61, 0x62})
			} else {
				checkUnlaid(t, h, []byte{0x61, 0x62}, api.ErrArg)
			}
		}
		for _, n := range strangeNumbers() {
			for _, h := range edgeHeads() {
				x.lay(&h, n)
				checkUnlaid(t, h, nil, api.ErrArg)
			}
		}
	}
}

// TestEncodeTwoNumbers: P9.1: one that is right doesn't make up for one that isn't.
func TestEncodeTwoNumbers(t *testing.T) {
	edges := []int{math.MinInt, -1, 0, 1, 255, 256, 65535, 65536, math.MaxInt}
	for _, x := range numbers() {
		for _, y := range numbers() {
			for _, n := range edges {
				for _, m := range edges {
					h := chapterHead()
					x.lay(&h, n)
					y.lay(&h, m)
					if h.Tos < 0 || h.Tos > 255 || h.Proto < 0 || h.Proto > 255 || h.Id < 0 || h.Id > 65535 || h.Ttl < 1 || h.Ttl > 255 {
						checkUnlaid(t, h, []byte{1}, api.ErrArg)
					} else {
						checkEncode(t, h, []byte{1})
					}
				}
			}
		}
	}
}

// TestEncodeLengths: P9.1: data of all lengths up to beyond the limit, and of none.
func TestEncodeLengths(t *testing.T) {
	data := someData(3000)
	checkEncode(t, chapterHead(), nil)
	checkEncode(t, chapterHead(), []byte{})
	for n := range data {
		if n <= 1480 {
			checkEncode(t, chapterHead(), data[:n])
		} else {
			checkUnlaid(t, chapterHead(), data[:n], api.ErrLong)
		}
	}
	for _, n := range []int{65515, 65516, 65535, 65536, 65556, 1 << 20} {
		checkUnlaid(t, chapterHead(), make([]byte, n), api.ErrLong)
	}
}

// TestEncodeErrorOrder: P9.1 with R5: a wrong number comes ahead of too much data.
func TestEncodeErrorOrder(t *testing.T) {
	for _, x := range numbers() {
		for _, n := range []int{math.MinInt, x.least - 1, x.most + 1, math.MaxInt} {
			for _, length := range []int{0, 1479, 1480, 1481, 65536} {
				h := chapterHead()
				x.lay(&h, n)
				checkUnlaid(t, h, make([]byte, length), api.ErrArg)
			}
		}
	}
}

// TestEncodeSumZero: P9.1: a sum that is 0 is laid as that, not as FFFF.
func TestEncodeSumZero(t *testing.T) {
	r := draws()
	for i := range 2000 {
		data := someBytes(r, i%1481)
		h := headOfSumZero(someHead(r), len(data))
		b, e := inet.Encode(h, data)
		if e != api.OK || b[10] != 0 || b[11] != 0 {
			t.Errorf("Encode(%v): % x, %d", h, b[:20], e)
		}
		checkEncode(t, h, data)
	}
}

// TestEncodeSumLeavesDataOut: P9.1: the sum is that of the head alone.
func TestEncodeSumLeavesDataOut(t *testing.T) {
	r := draws()
	first, _ := inet.Encode(chapterHead(), make([]byte, 99))
	for range 100 {
		b, _ := inet.Encode(chapterHead(), someBytes(r, 99))
		if !bytes.Equal(b[:20], first[:20]) {
			t.Errorf("Encode: the head % x hangs on the data", b[:20])
		}
	}
}

// TestEncodeAny: P9.1, heads of all kinds.
func TestEncodeAny(t *testing.T) {
	r := draws()
	for _, h := range edgeHeads() {
		for _, n := range []int{0, 1, 2, 1479, 1480} {
			checkEncode(t, h, someBytes(r, n))
		}
	}
	for i := range 20000 {
		checkEncode(t, someHead(r), someBytes(r, i%100))
	}
}
