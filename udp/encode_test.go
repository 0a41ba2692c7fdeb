package udp_test

import (
	"bytes"
	"math"
	"testing"

	"slipway/api"
	"slipway/udp"
)

// TestErrorNumbers: the section Errors.
func TestErrorNumbers(t *testing.T) {
	var got []api.Errno
	for _, u := range []api.Udp{{Src: -1, Dst: 1}, {Src: 1, Dst: 1, Data: make([]byte, 1473)}, {Src: 1}, {Src: 1, Dst: 1}} {
		_, e := udp.Encode(two, one, u)
		got = append(got, e)
	}
	for _, b := range [][]byte{nil, {0, 1, 0, 1, 0, 7, 0, 0}, {0, 1, 0, 1, 0, 8, 0, 1}, {0, 1, 0, 0, 0, 8, 0, 0}, {0, 1, 0, 1, 0, 8, 0, 0}} {
		_, e := udp.Decode(two, one, b)
		got = append(got, e)
	}
	for i, want := range []api.Errno{1, 2, 120, 0, 5, 92, 93, 120, 0} {
		if got[i] != want {
			t.Errorf("error %d: %d, want %d", i, got[i], want)
		}
	}
}

// TestEncodeExamples: P12.1, the chapter's table.
func TestEncodeExamples(t *testing.T) {
	if b, e := udp.Encode(two, one, chapterDatagram()); e != api.OK || !bytes.Equal(b, chapterBytes()) {
		t.Errorf("Encode: % x, %d, want % x", b, e, chapterBytes())
	}
	checkUnlaid(t, api.Udp{Src: -1, Dst: 67}, api.ErrArg)
	checkUnlaid(t, api.Udp{Src: 68, Dst: 0}, api.ErrZero)
	checkUnlaid(t, api.Udp{Src: 68, Dst: 65536}, api.ErrArg)
	if b, e := udp.Encode(two, one, api.Udp{Src: 1, Dst: 2, Data: make([]byte, 1472)}); e != api.OK || len(b) != 1480 {
		t.Errorf("Encode of 1472 bytes: %d, %d", len(b), e)
	}
	checkUnlaid(t, api.Udp{Src: 1, Dst: 2, Data: make([]byte, 1473)}, api.ErrLong)
}

// TestEncodePlaces: P12.1, the form: each byte at its place, none taken for its neighbour.
func TestEncodePlaces(t *testing.T) {
	data := bytes.Repeat([]byte{0x77}, 0x101)
	want := []byte{0x11, 0x12, 0x13, 0x14, 0x01, 0x09, 0x16, 0x66}
	b, e := udp.Encode(0x21222324, 0x25262728, api.Udp{Src: 0x1112, Dst: 0x1314, Data: data})
	if e != api.OK || !bytes.Equal(b, append(want, data...)) {
		t.Errorf("Encode: % x, %d, want % x", b, e, want)
	}
}

// strangePorts are beyond all bounds, though the lowest bits of some are not.
func strangePorts() []int {
	return []int{-1, -2, -67, -65535, -65536, 65536, 65537, 65603, 1 << 31, 1<<32 + 67, 1<<48 + 1, math.MaxInt, math.MinInt, math.MinInt + 67}
}

// TestEncodePorts: P12.1: each port within the bounds, at them and one past them, alone and with another one.
func TestEncodePorts(t *testing.T) {
	edges := append(strangePorts(), 0, 1, 67, 65534, 65535)
	for _, src := range edges {
		for _, dst := range edges {
			u := api.Udp{Src: src, Dst: dst, Data: []byte{1, 2, 3}}
			switch {
			case src < 0 || src > 65535 || dst < 0 || dst > 65535:
				checkUnlaid(t, u, api.ErrArg)
			case dst == 0:
				checkUnlaid(t, u, api.ErrZero)
			default:
				checkEncode(t, two, one, u)
			}
		}
	}
}

// TestEncodeAllPorts: P12.1: every port there is, Src 0 with them.
func TestEncodeAllPorts(t *testing.T) {
	for n := range 65536 {
		checkEncode(t, two, one, api.Udp{Src: n, Dst: 67})
		if n > 0 {
			checkEncode(t, two, one, api.Udp{Src: 68, Dst: n, Data: []byte{9}})
		}
	}
}

// TestEncodeLengths: P12.1: Data of all lengths up to beyond the limit, and of none.
func TestEncodeLengths(t *testing.T) {
	data := someData(3000)
	checkEncode(t, two, one, api.Udp{Src: 1, Dst: 2, Data: nil})
	checkEncode(t, two, one, api.Udp{Src: 1, Dst: 2, Data: []byte{}})
	for n := range data {
		if u := (api.Udp{Src: 1, Dst: 2, Data: data[:n]}); n <= 1472 {
			checkEncode(t, two, one, u)
		} else {
			checkUnlaid(t, u, api.ErrLong)
		}
	}
	for _, n := range []int{65527, 65528, 65535, 65536, 65537, 65544, 1 << 20} {
		checkUnlaid(t, api.Udp{Src: 1, Dst: 2, Data: make([]byte, n)}, api.ErrLong)
	}
}

// TestEncodeErrorOrder: P12.1 with R5: a wrong port comes ahead of Dst 0, and that ahead of too much Data.
func TestEncodeErrorOrder(t *testing.T) {
	for _, n := range []int{0, 1, 1471, 1472, 1473, 65536} {
		data := make([]byte, n)
		for _, wrong := range strangePorts() {
			checkUnlaid(t, api.Udp{Src: wrong, Dst: 0, Data: data}, api.ErrArg)
			checkUnlaid(t, api.Udp{Src: wrong, Dst: 1, Data: data}, api.ErrArg)
			checkUnlaid(t, api.Udp{Src: wrong, Dst: wrong, Data: data}, api.ErrArg)
			checkUnlaid(t, api.Udp{Src: 0, Dst: wrong, Data: data}, api.ErrArg)
			checkUnlaid(t, api.Udp{Src: 1, Dst: wrong, Data: data}, api.ErrArg)
		}
		for _, src := range []int{0, 1, 65535} {
			checkUnlaid(t, api.Udp{Src: src, Dst: 0, Data: data}, api.ErrZero)
		}
	}
}

// TestEncodeZeroSum: P12.1: a sum that comes out as 0 is laid as FFFF.
func TestEncodeZeroSum(t *testing.T) {
	r := draws()
	for n := range 1473 {
		src, dst := r.Uint32(), r.Uint32()
		u := ofZeroSum(src, dst, someDatagram(r, n))
		if b, e := udp.Encode(src, dst, u); e != api.OK || b[6] != 0xff || b[7] != 0xff {
			t.Errorf("Encode of %d bytes, whose sum is 0: % x, %d", n, b, e)
		}
		checkEncode(t, src, dst, u)
	}
}

// TestEncodeAllSums: P12.1: every sum from 1 to FFFF is laid, each for one value of a word of Data, and 0 never.
func TestEncodeAllSums(t *testing.T) {
	seen := make([]bool, 65536)
	for n := range 65536 {
		b, e := udp.Encode(two, one, api.Udp{Src: 5, Dst: 6, Data: []byte{byte(n / 256), byte(n % 256)}})
		if e != api.OK || len(b) != 10 {
			t.Fatalf("Encode: % x, %d", b, e)
		}
		seen[plainWord(b, 6)] = true
	}
	for sum, was := range seen {
		if was != (sum > 0) {
			t.Errorf("the sum %04x was laid: %v", sum, was)
		}
	}
}

// TestEncodeAny: P12.1, datagrams of all kinds, between addresses of all kinds.
func TestEncodeAny(t *testing.T) {
	r := draws()
	for _, src := range edgeAddresses() {
		for _, dst := range edgeAddresses() {
			for _, u := range edgeDatagrams() {
				checkEncode(t, src, dst, u)
			}
		}
	}
	for i := range 20000 {
		checkEncode(t, r.Uint32(), r.Uint32(), someDatagram(r, i%100))
	}
}
