package icmp_test

import (
	"bytes"
	"testing"

	"slipway/api"
	"slipway/icmp"
)

// TestDecodeExamples: P14.2, the chapter's table.
func TestDecodeExamples(t *testing.T) {
	if m, e := icmp.Decode(chapterBytes()); e != api.OK || !same(m, chapterQuestion()) {
		t.Errorf("Decode: %v, %d, want %v", m, e, chapterQuestion())
	}
	checkRefused(t, chapterBytes()[:7], api.ErrShort)
	turned := chapterBytes()
	turned[9] = 0x63
	checkRefused(t, turned, api.ErrSum)
}

// TestDecodePlaces: P14.2, the form: each number is told from its place, none taken for its neighbour.
func TestDecodePlaces(t *testing.T) {
	b := []byte{0x03, 0x12, 0x10, 0x65, 0x21, 0x22, 0x23, 0x24, 0x41, 0x42, 0x67}
	want := api.Icmp{Kind: 3, Code: 0x12, Rest: 0x21222324, Data: []byte{0x41, 0x42, 0x67}}
	if m, e := icmp.Decode(b); e != api.OK || !same(m, want) {
		t.Errorf("Decode: %v, %d, want %v", m, e, want)
	}
}

// TestDecodeLengths: P14.2: bytes of every length from none to beyond 1480, with a right sum and with a wrong one.
func TestDecodeLengths(t *testing.T) {
	checkRefused(t, nil, api.ErrShort)
	checkRefused(t, []byte{}, api.ErrShort)
	all := append([]byte{8, 7, 0, 0, 1, 2, 3, 4}, someData(2000)...)
	for n := range all {
		b := bytes.Clone(all[:n])
		if n < 8 {
			checkRefused(t, b, api.ErrShort)
			checkRefused(t, make([]byte, n), api.ErrShort)
			checkRefused(t, bytes.Repeat([]byte{255}, n), api.ErrShort)
			continue
		}
		mend(b)
		if n > 1480 {
			checkRefused(t, b, api.ErrLong)
			checkRefused(t, make([]byte, n), api.ErrLong)
			continue
		}
		checkTaken(t, b)
		checkRefused(t, make([]byte, n), api.ErrSum)
		b[3] ^= 1
		checkRefused(t, b, api.ErrSum)
	}
	for _, n := range []int{65535, 65536, 65544, 1 << 20} {
		checkRefused(t, mend(append([]byte{8}, make([]byte, n-1)...)), api.ErrLong)
	}
}

// TestDecodeLengthIsNotCapacity: what lies behind the bytes that are handed in is not theirs.
func TestDecodeLengthIsNotCapacity(t *testing.T) {
	room := plainForm(api.Icmp{Kind: 8, Rest: 6, Data: bytes.Repeat([]byte{0x35}, 60)})
	for n := range 68 {
		if n < 8 {
			checkRefused(t, room[:n], api.ErrShort)
		} else {
			checkRefused(t, room[:n], api.ErrSum)
		}
	}
	checkTaken(t, room)
}

// TestDecodeSums: P14.2: of all sums the right one alone is taken, also where it is 0 or FFFF.
func TestDecodeSums(t *testing.T) {
	list := []api.Icmp{chapterQuestion(), {}, {Kind: 3, Code: 255, Rest: 0xffffffff, Data: []byte{255}}, ofZeroSum(chapterQuestion()), ofZeroSum(api.Icmp{Kind: 3, Data: []byte{7}}), someMessage(draws(), 33), {Data: make([]byte, 5)}}
	for _, m := range list {
		b := plainForm(m)
		right := int(b[2])*256 + int(b[3])
		for sum := range 65536 {
			b[2], b[3] = byte(sum/256), byte(sum%256)
			if sum == right {
				checkTaken(t, b)
			} else {
				checkRefused(t, b, api.ErrSum)
			}
		}
	}
}

// TestDecodeFullSum: P14.2: FFFF in the place of 0, and 0 in that of FFFF, are the same in sums that go round, but not the one that the form has.
func TestDecodeFullSum(t *testing.T) {
	r := draws()
	for n := range 200 {
		m := someMessage(r, n)
		m.Code |= 1
		b := plainForm(ofZeroSum(m))
		checkTaken(t, b)
		b[2], b[3] = 255, 255
		checkRefused(t, b, api.ErrSum)
		zeros := make([]byte, 8+n)
		checkRefused(t, zeros, api.ErrSum)
		zeros[2], zeros[3] = 255, 255
		checkTaken(t, zeros)
	}
}

// TestDecodeSumBits: P14.2: a sum that is off by one bit is wrong, whichever bit it is.
func TestDecodeSumBits(t *testing.T) {
	for _, m := range edgeMessages() {
		b := plainForm(m)
		for bit := range 16 {
			b[2+bit/8] ^= 1 << (bit % 8)
			checkRefused(t, b, api.ErrSum)
			b[2+bit/8] ^= 1 << (bit % 8)
		}
		checkTaken(t, b)
	}
}

// TestDecodeKinds: P14.2: with a right sum the three kinds are taken and all others are ErrIcmp; with a wrong one that is told first.
func TestDecodeKinds(t *testing.T) {
	for kind := range 256 {
		for _, n := range []int{0, 1, 2, 1471, 1472} {
			b := plainForm(api.Icmp{Kind: kind, Code: 9, Rest: 0x01020304, Data: someData(n)})
			if kind == 0 || kind == 3 || kind == 8 {
				checkTaken(t, b)
			} else {
				checkRefused(t, b, api.ErrIcmp)
			}
			b[3] ^= 1
			checkRefused(t, b, api.ErrSum)
			b[3] ^= 1
			checkRefused(t, b[:7], api.ErrShort)
		}
		checkRefused(t, plainForm(api.Icmp{Kind: kind, Data: someData(1473)}), api.ErrLong)
	}
}

// TestDecodeCodes: P14.2: every code is taken with each kind.
func TestDecodeCodes(t *testing.T) {
	for _, kind := range kinds() {
		for code := range 256 {
			checkTaken(t, plainForm(api.Icmp{Kind: kind, Code: code, Rest: 3, Data: []byte{4, 5, 6}}))
		}
	}
}

// TestDecodeErrorOrder: P14.2 with R5: of all faults the first in Decode's order is told, whichever of them stand together.
func TestDecodeErrorOrder(t *testing.T) {
	for set := range 1 << 4 {
		n, m, want := 20, api.Icmp{Kind: 8, Code: 1}, api.OK
		if set&8 != 0 {
			m.Kind, want = 9, api.ErrIcmp
		}
		if set&2 != 0 {
			n = 1481
		}
		m.Data = someData(n - 8)
		b := plainForm(m)
		if set&4 != 0 {
			b[2], want = b[2]^128, api.ErrSum
		}
		if set&2 != 0 {
			want = api.ErrLong
		}
		if set&1 != 0 {
			b, want = b[:7], api.ErrShort
		}
		if want == api.OK {
			checkTaken(t, b)
		} else {
			checkRefused(t, b, want)
		}
	}
}

// TestDecodeAny: P14.2, bytes of all kinds: any at all, nearly right ones, and such with a right sum.
func TestDecodeAny(t *testing.T) {
	r := draws()
	for i := range 100000 {
		b := someBytes(r, i%70)
		checkDecode(t, b)
		if len(b) < 8 {
			continue
		}
		checkDecode(t, mend(b))
		b[0] = byte(r.IntN(10))
		checkDecode(t, mend(b))
		b[r.IntN(len(b))] += byte(r.IntN(3))
		checkDecode(t, b)
	}
}
