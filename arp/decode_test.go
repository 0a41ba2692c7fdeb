package arp_test

import (
	"bytes"
	"testing"

	"slipway/api"
	"slipway/arp"
)

// plainMessage is what stands at the form's places.
func plainMessage(b []byte) api.Arp {
	p := api.Arp{Op: int(b[6])*256 + int(b[7])}
	for i := range 6 {
		p.SrcMac[i], p.DstMac[i] = b[8+i], b[18+i]
	}
	for i := range 4 {
		p.SrcIp, p.DstIp = p.SrcIp*256+uint32(b[14+i]), p.DstIp*256+uint32(b[24+i])
	}
	return p
}

func checkDecode(t *testing.T, b []byte) {
	t.Helper()
	if p, e := arp.Decode(b); e != api.OK || p != plainMessage(b) {
		t.Errorf("Decode(% x): %v, %d, want %v", b, p, e, plainMessage(b))
	}
}

// checkRefused: an error, beside which the message is a zero one.
func checkRefused(t *testing.T, b []byte, err api.Errno) {
	t.Helper()
	if p, e := arp.Decode(b); e != err || p != (api.Arp{}) {
		t.Errorf("Decode(% x): %v, %d, want none, %d", b, p, e, err)
	}
}

// formOf is a message's bytes with others behind it, n in all; fewer than 28 are its beginning.
func formOf(n int) []byte {
	r := draws()
	b := append(plainForm(someMessage(r)), someBytes(r, n)...)
	return b[:n:n]
}

// TestDecodeExamples: P8.1, the chapter's table.
func TestDecodeExamples(t *testing.T) {
	first := plainForm(api.Arp{Op: 1, SrcMac: stationA(), SrcIp: ten, DstIp: one})
	checkRefused(t, make([]byte, 27), api.ErrShort)
	checkRefused(t, make([]byte, 28), api.ErrArp)
	p, e := arp.Decode(append(first, make([]byte, 18)...))
	if want := arp.Ask(stationA(), ten, one); e != api.OK || p != want {
		t.Errorf("Decode: %v, %d, want %v", p, e, want)
	}
}

// TestDecodePlaces: P8.1, the form: each byte is told from its place, none taken for its neighbour.
func TestDecodePlaces(t *testing.T) {
	p, e := arp.Decode([]byte{
		0, 1, 8, 0, 6, 4, 0, 2,
		11, 12, 13, 14, 15, 16, 0x15, 0x16, 0x17, 0x18,
		31, 32, 33, 34, 35, 36, 0x29, 0x2a, 0x2b, 0x2c,
	})
	want := api.Arp{Op: 2, SrcMac: api.Mac{11, 12, 13, 14, 15, 16}, SrcIp: 0x15161718, DstMac: api.Mac{31, 32, 33, 34, 35, 36}, DstIp: 0x292a2b2c}
	if e != api.OK || p != want {
		t.Errorf("Decode: %v, %d, want %v", p, e, want)
	}
}

// TestDecodeLengths: P8.1: all lengths from none up to beyond a frame's.
func TestDecodeLengths(t *testing.T) {
	checkRefused(t, nil, api.ErrShort)
	checkRefused(t, []byte{}, api.ErrShort)
	for n := range 1600 {
		if n < 28 {
			checkRefused(t, formOf(n), api.ErrShort)
		} else {
			checkDecode(t, formOf(n))
		}
	}
	checkDecode(t, formOf(1<<20))
}

// TestDecodeLengthIsNotCapacity: what lies behind the bytes that are handed in is not theirs.
func TestDecodeLengthIsNotCapacity(t *testing.T) {
	room := formOf(100)
	for n := range 28 {
		checkRefused(t, room[:n], api.ErrShort)
	}
	checkDecode(t, room[:28])
}

// TestDecodeKinds: P8.1: each of the first six bytes has one value that is taken, and no other.
func TestDecodeKinds(t *testing.T) {
	for _, n := range []int{28, 46} {
		for place, right := range []byte{0, 1, 8, 0, 6, 4} {
			b := formOf(n)
			for x := range 256 {
				if b[place] = byte(x); b[place] == right {
					checkDecode(t, b)
				} else {
					checkRefused(t, b, api.ErrArp)
				}
			}
		}
	}
}

// TestDecodeKindsTwoBeside: P8.1: two wrong bytes don't make up for each other, nor do right ones at each other's place.
func TestDecodeKindsTwoBeside(t *testing.T) {
	for i := range 6 {
		for j := range i {
			for bit := range 8 {
				b := formOf(28)
				b[i] ^= 1 << bit
				b[j] ^= 1 << bit
				checkRefused(t, b, api.ErrArp)
			}
			b := formOf(28)
			if b[i], b[j] = b[j], b[i]; b[i] != b[j] {
				checkRefused(t, b, api.ErrArp)
			}
		}
	}
}

// TestDecodeOps: P8.1: all numbers of 16 bits.
func TestDecodeOps(t *testing.T) {
	for _, n := range []int{28, 46} {
		b := formOf(n)
		for op := range 65536 {
			if b[6], b[7] = byte(op>>8), byte(op); op == 1 || op == 2 {
				checkDecode(t, b)
			} else {
				checkRefused(t, b, api.ErrArp)
			}
		}
	}
}

// TestDecodeErrorOrder: P8.1 with R5: too few bytes come ahead of wrong ones; two wrong ones are one error.
func TestDecodeErrorOrder(t *testing.T) {
	for place := range 8 {
		for n := range 30 {
			b := formOf(30)
			b[place] ^= 0x40
			if n < 28 {
				checkRefused(t, b[:n:n], api.ErrShort)
			} else {
				checkRefused(t, b[:n:n], api.ErrArp)
			}
		}
	}
	both := formOf(28)
	both[0], both[7] = 9, 9
	checkRefused(t, both, api.ErrArp)
	checkRefused(t, both[:27], api.ErrShort)
	checkRefused(t, bytes.Repeat([]byte{255}, 27), api.ErrShort)
	checkRefused(t, bytes.Repeat([]byte{255}, 28), api.ErrArp)
}

// TestDecodeEdges: P8.1: every station and every address is told, whatever it is.
func TestDecodeEdges(t *testing.T) {
	b := formOf(28)
	for place := 8; place < 28; place++ {
		was := b[place]
		for x := range 256 {
			b[place] = byte(x)
			checkDecode(t, b)
		}
		b[place] = was
	}
	for _, x := range []byte{0, 255} {
		copy(b[8:], bytes.Repeat([]byte{x}, 20))
		checkDecode(t, b)
	}
}

// TestDecodeLooksAtNoTail: P8.1: what stands behind the 28 bytes is not looked at.
func TestDecodeLooksAtNoTail(t *testing.T) {
	r := draws()
	for n := range 60 {
		p := someMessage(r)
		form := plainForm(p)
		for _, tail := range [][]byte{make([]byte, n), bytes.Repeat([]byte{255}, n), someBytes(r, n), bytes.Repeat(form, n)} {
			if got, e := arp.Decode(append(bytes.Clone(form), tail...)); e != api.OK || got != p {
				t.Errorf("Decode of %v, % x behind it: %v, %d", p, tail, got, e)
			}
		}
	}
}

// TestDecodeOfEncode: P8.4: the message comes back, with anything behind its bytes.
func TestDecodeOfEncode(t *testing.T) {
	r := draws()
	list := []api.Arp{{Op: 1}, {Op: 2}, {Op: 1, SrcMac: everyone(), SrcIp: 1<<32 - 1, DstMac: everyone(), DstIp: 1<<32 - 1}}
	for range 5000 {
		list = append(list, someMessage(r))
	}
	for _, p := range list {
		b, e := arp.Encode(p)
		if e != api.OK {
			t.Fatalf("Encode(%v): %d", p, e)
		}
		for _, n := range []int{0, 1, 18, r.IntN(1500)} {
			if got, e := arp.Decode(append(bytes.Clone(b), someBytes(r, n)...)); e != api.OK || got != p {
				t.Errorf("Decode of Encode of %v, %d bytes behind: %v, %d", p, n, got, e)
			}
		}
	}
}

// TestEncodeOfDecode: P8.4: the first 28 bytes come back, whatever they are.
func TestEncodeOfDecode(t *testing.T) {
	r := draws()
	for i := range 5000 {
		b := someBytes(r, 28+i%100)
		copy(b, []byte{0, 1, 8, 0, 6, 4, 0, byte(1 + i%2)})
		p, e := arp.Decode(b)
		if e != api.OK {
			t.Fatalf("Decode(% x): %d", b, e)
		}
		if back, e := arp.Encode(p); e != api.OK || !bytes.Equal(back, b[:28]) {
			t.Errorf("Encode of Decode of % x: % x, %d", b, back, e)
		}
	}
}
