package udp_test

import (
	"bytes"
	"testing"

	"slipway/api"
	"slipway/udp"
)

// TestDecodeExamples: P12.2, the chapter's table.
func TestDecodeExamples(t *testing.T) {
	none := chapterBytes()
	none[6], none[7] = 0, 0
	for _, b := range [][]byte{chapterBytes(), append(chapterBytes(), 0), none} {
		if u, e := udp.Decode(two, one, b); e != api.OK || !same(u, chapterDatagram()) {
			t.Errorf("Decode(% x): %v, %d", b, u, e)
		}
	}
	wrong := chapterBytes()
	wrong[7] = 0xed
	checkRefused(t, two, one, wrong, api.ErrSum)
	checkRefused(t, two, three, chapterBytes(), api.ErrSum)
	if u, e := udp.Decode(one, two, chapterBytes()); e != api.OK || !same(u, chapterDatagram()) {
		t.Errorf("Decode for the addresses in turn: %v, %d", u, e)
	}
	checkRefused(t, two, one, make([]byte, 7), api.ErrShort)
	checkRefused(t, two, one, []byte{0, 0x44, 0, 0x43, 0, 7, 0, 0}, api.ErrLength)
	checkRefused(t, two, one, []byte{0, 0x44, 0, 0x43, 0, 9, 0, 0}, api.ErrLength)
	checkRefused(t, two, one, []byte{0, 0x44, 0, 0, 0, 8, 0, 0}, api.ErrZero)
}

// TestDecodePlaces: P12.2, the form: each number is told from its place, none taken for its neighbour.
func TestDecodePlaces(t *testing.T) {
	b := []byte{0x11, 0x12, 0x13, 0x14, 0, 11, 0xc6, 0xdb, 0x41, 0x42, 0x43, 0x44}
	want := api.Udp{Src: 0x1112, Dst: 0x1314, Data: []byte("ABC")}
	if u, e := udp.Decode(0x21222324, 0x25262728, b); e != api.OK || !same(u, want) {
		t.Errorf("Decode: %v, %d, want %v", u, e, want)
	}
}

// TestDecodeLengths: P12.2: bytes of every length from none to beyond 8, of several kinds.
func TestDecodeLengths(t *testing.T) {
	checkRefused(t, two, one, nil, api.ErrShort)
	checkRefused(t, two, one, []byte{}, api.ErrShort)
	full := plainForm(two, one, api.Udp{Src: 1, Dst: 2, Data: someData(60)})
	bare := append(plainForm(two, one, api.Udp{Src: 1, Dst: 2}), someData(60)...)
	for n := range 69 {
		for _, b := range [][]byte{full, bare, make([]byte, 68), bytes.Repeat([]byte{0xff}, 68), bytes.Repeat([]byte{0, 9}, 34)} {
			if b = b[:n:n]; n < 8 {
				checkRefused(t, two, one, b, api.ErrShort)
			} else {
				checkDecode(t, two, one, b)
			}
		}
	}
	for _, n := range []int{8, 9, 68} {
		checkTaken(t, two, one, bare[:n])
	}
}

// TestDecodeLengthIsNotCapacity: what lies behind the bytes that are handed in is not theirs.
func TestDecodeLengthIsNotCapacity(t *testing.T) {
	room := plainForm(two, one, api.Udp{Src: 1, Dst: 2, Data: someData(60)})
	for n := range 68 {
		if n < 8 {
			checkRefused(t, two, one, room[:n], api.ErrShort)
		} else {
			checkRefused(t, two, one, room[:n], api.ErrLength)
		}
	}
	checkTaken(t, two, one, room)
}

// TestDecodeLengthTold: P12.2: all numbers of 16 bits as the length, with a right sum and with none, over bytes of several lengths.
func TestDecodeLengthTold(t *testing.T) {
	for _, n := range []int{8, 9, 10, 46, 1480, 1481, 65534, 65535, 65536, 70000} {
		b := append(plainForm(two, one, api.Udp{Src: 1, Dst: 2}), someData(n-8)...)
		for length := range 65536 {
			// Where that many bytes are summed at each length, those about the edges will do.
			if length > 100 && length < n-2 && length%1001 > 1 {
				continue
			}
			b[4], b[5], b[6], b[7] = byte(length/256), byte(length%256), 0, 0
			if length < 8 || length > n {
				checkRefused(t, two, one, b, api.ErrLength)
				continue
			}
			checkTaken(t, two, one, b)
			checkTaken(t, two, one, mend(two, one, b))
			b[6] ^= 0x80
			checkDecode(t, two, one, b)
		}
	}
}

// TestDecodeSums: P12.2: of all sums the right one alone is taken, and 0, which says that there is none.
func TestDecodeSums(t *testing.T) {
	list := []api.Udp{chapterDatagram(), {Dst: 1}, {Src: 65535, Dst: 65535, Data: []byte{255}}, ofZeroSum(two, one, chapterDatagram()), someDatagram(draws(), 33)}
	for _, u := range list {
		b := plainForm(two, one, u)
		right := plainWord(b, 6)
		for sum := range 65536 {
			b[6], b[7] = byte(sum/256), byte(sum%256)
			if sum == right || sum == 0 {
				checkTaken(t, two, one, b)
			} else {
				checkRefused(t, two, one, b, api.ErrSum)
			}
		}
	}
}

// TestDecodeSumBits: P12.2: a sum that is off by one bit is wrong at each place, unless it is 0 by that.
func TestDecodeSumBits(t *testing.T) {
	for bit := range 16 {
		for _, u := range edgeDatagrams() {
			b := plainForm(two, one, u)
			b[7-bit/8] ^= 1 << (bit % 8)
			checkRefused(t, two, one, b, api.ErrSum)
		}
		// The sum is this one bit here: without it there is none.
		u := api.Udp{Dst: 7}
		u.Src = (plainSum(two, one, plainForm(two, one, u)) + 65535 - 1<<bit) % 65535
		b := plainForm(two, one, u)
		if plainWord(b, 6) != 1<<bit {
			t.Fatalf("the sum is %04x", plainWord(b, 6))
		}
		b[6], b[7] = 0, 0
		checkTaken(t, two, one, b)
	}
}

// TestDecodeNoSum: P12.2: without a sum every byte but the length may be any, and so may the addresses.
func TestDecodeNoSum(t *testing.T) {
	r := draws()
	for n := range 200 {
		b := plainForm(two, one, someDatagram(r, n))
		b[6], b[7] = 0, 0
		checkTaken(t, r.Uint32(), r.Uint32(), b)
		checkTaken(t, one, three, append(b, 1, 2, 3))
	}
}

// TestDecodeBits: P12.2: each bit of a datagram that is turned is seen, be it of an even or of an odd number of bytes.
func TestDecodeBits(t *testing.T) {
	for _, n := range []int{0, 1, 2, 33, 100} {
		b := plainForm(two, one, api.Udp{Src: 68, Dst: 67, Data: someData(n)})
		for bit := range 8 * len(b) {
			b[bit/8] ^= 1 << (bit % 8)
			if bit/8 == 4 || bit/8 == 5 {
				checkDecode(t, two, one, b)
			} else {
				checkRefused(t, two, one, b, api.ErrSum)
			}
			b[bit/8] ^= 1 << (bit % 8)
		}
		checkTaken(t, two, one, b)
	}
}

// TestDecodeSumLooksAtLength: P12.2: a length that is another one, though it fits, is seen by the sum.
func TestDecodeSumLooksAtLength(t *testing.T) {
	b := append(plainForm(two, one, api.Udp{Src: 68, Dst: 67, Data: make([]byte, 40)}), make([]byte, 40)...)
	for length := range 100 {
		b[5] = byte(length)
		switch {
		case length < 8 || length > 88:
			checkRefused(t, two, one, b, api.ErrLength)
		case length != 48:
			checkRefused(t, two, one, b, api.ErrSum)
		default:
			checkTaken(t, two, one, b)
		}
	}
}

// TestDecodeZeroPort: P12.2: Dst 0 is refused with a right sum and with none; with a wrong one that is told first. Src 0 may be.
func TestDecodeZeroPort(t *testing.T) {
	for _, n := range []int{0, 1, 2, 1472, 3000} {
		for _, src := range []int{0, 1, 65535} {
			b := plainForm(two, one, api.Udp{Src: src, Dst: 0, Data: someData(n)})
			checkRefused(t, two, one, b, api.ErrZero)
			checkRefused(t, two, one, append(bytes.Clone(b), 0, 1), api.ErrZero)
			checkRefused(t, two, three, b, api.ErrSum)
			b[7] ^= 1
			checkRefused(t, two, one, b, api.ErrSum)
			b[6], b[7] = 0, 0
			checkRefused(t, two, one, b, api.ErrZero)
			checkTaken(t, two, one, plainForm(two, one, api.Udp{Src: src, Dst: 1, Data: someData(n)}))
		}
	}
}

// TestDecodePorts: P12.2: every port there is, with a sum and without.
func TestDecodePorts(t *testing.T) {
	for n := 1; n < 65536; n++ {
		b := plainForm(two, one, api.Udp{Src: n, Dst: 65536 - n})
		checkTaken(t, two, one, b)
		b[6], b[7] = 0, 0
		checkTaken(t, two, one, b)
	}
	checkTaken(t, two, one, plainForm(two, one, api.Udp{Src: 0, Dst: 1}))
}

// TestDecodeErrorOrder: P12.2 with R5: of all faults the first in Decode's order is told, whichever of them stand together.
func TestDecodeErrorOrder(t *testing.T) {
	faults := []api.Errno{api.ErrShort, api.ErrLength, api.ErrSum, api.ErrZero}
	for set := range 1 << 4 {
		for _, length := range []byte{0, 7, 11, 255} {
			b := chapterBytes()
			if set&8 != 0 {
				b[2], b[3] = 0, 0
			}
			mend(two, one, b)
			if set&4 != 0 {
				b[7] ^= 1
			}
			if set&2 != 0 {
				b[5] = length
			}
			if set&1 != 0 {
				b = b[:7]
			}
			want := api.OK
			for i := 3; i >= 0; i-- {
				if set>>i&1 == 1 {
					want = faults[i]
				}
			}
			if want == api.OK {
				checkTaken(t, two, one, b)
			} else {
				checkRefused(t, two, one, b, want)
			}
		}
	}
}

// TestDecodeLooksAtNoTail: P12.2: what stands behind the length is not looked at, neither for Data nor for the sum.
func TestDecodeLooksAtNoTail(t *testing.T) {
	r := draws()
	for n := range 80 {
		u := someDatagram(r, n%50)
		form := plainForm(two, one, u)
		for _, tail := range [][]byte{{}, make([]byte, n), bytes.Repeat([]byte{255}, n), someBytes(r, n), bytes.Repeat(form, 2)} {
			if got, e := udp.Decode(two, one, append(bytes.Clone(form), tail...)); e != api.OK || !same(got, u) {
				t.Errorf("Decode of %v, % x behind it: %v, %d", u, tail, got, e)
			}
		}
	}
}

// TestDecodeLong: P12.2: no bound is there for Data but the length's.
func TestDecodeLong(t *testing.T) {
	for _, n := range []int{1471, 1472, 1473, 1474, 3001, 65526, 65527} {
		b := plainForm(two, one, api.Udp{Src: 3, Dst: 4, Data: someData(n)})
		if u, e := udp.Decode(two, one, b); e != api.OK || !bytes.Equal(u.Data, someData(n)) {
			t.Errorf("Decode of %d bytes of Data: %d bytes, %d", n, len(u.Data), e)
		}
		b[len(b)-1] ^= 1
		checkRefused(t, two, one, b, api.ErrSum)
		b[6], b[7] = 0, 0
		checkTaken(t, two, one, b)
	}
}

// TestDecodeAny: P12.2, bytes of all kinds: any at all, nearly right ones, and such with a right sum.
func TestDecodeAny(t *testing.T) {
	r := draws()
	for i := range 100000 {
		src, dst, b := r.Uint32(), r.Uint32(), someBytes(r, i%70)
		checkDecode(t, src, dst, b)
		if len(b) < 8 {
			continue
		}
		b[4], b[5] = 0, byte(r.IntN(len(b)+2))
		checkDecode(t, src, dst, b)
		b[5] = byte(8 + r.IntN(len(b)-7))
		checkDecode(t, src, dst, b)
		checkDecode(t, src, dst, mend(src, dst, b))
		b[2], b[3] = 0, byte(i%2)
		checkDecode(t, src, dst, mend(src, dst, b))
	}
}
