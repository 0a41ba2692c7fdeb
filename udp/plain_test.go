package udp_test

import (
	"bytes"
	"math"
	"math/rand/v2"
	"testing"

	"slipway/api"
	"slipway/udp"
)

const (
	one   = 0x0a000001
	two   = 0x0a000002
	three = 0x0a000003
)

// chapterDatagram is the one of the chapter's examples, sent from two to one.
func chapterDatagram() api.Udp { return api.Udp{Src: 68, Dst: 67, Data: []byte{0x61, 0x62}} }

func chapterBytes() []byte { return []byte{0, 0x44, 0, 0x43, 0, 0x0a, 0x89, 0xee, 0x61, 0x62} }

// draws is the same row of numbers at each run: a fault that it shows can be looked at again.
func draws() *rand.Rand { return rand.New(rand.NewPCG(12, 1)) }

func someBytes(r *rand.Rand, n int) []byte {
	b := make([]byte, n)
	for i := range b {
		b[i] = byte(r.Uint32())
	}
	return b
}

// someData is not all alike, so that a byte at another's place is seen.
func someData(n int) []byte { return someBytes(draws(), n) }

func someDatagram(r *rand.Rand, n int) api.Udp {
	return api.Udp{Src: r.IntN(65536), Dst: 1 + r.IntN(65535), Data: someBytes(r, n)}
}

// edgeAddresses are such whose bytes are the least and the greatest, and each other's beginnings and ends.
func edgeAddresses() []uint32 {
	return []uint32{0, 1, one, two, 0xffff, 0x10000, 0xffff0000, 0x7fffffff, 0x80000000, math.MaxUint32 - 1, math.MaxUint32}
}

// edgeDatagrams have the least and the greatest ports, and all edges of Data, of an even and of an odd number of bytes.
func edgeDatagrams() []api.Udp {
	list := []api.Udp{}
	for _, src := range []int{0, 1, 68, 65535} {
		for _, dst := range []int{1, 67, 65535} {
			for _, n := range []int{0, 1, 2, 3, 1471, 1472} {
				list = append(list, api.Udp{Src: src, Dst: dst, Data: someData(n)})
			}
		}
	}
	return list
}

// plainTotal is the sum of all words that a datagram's sum goes over, with nothing in the sum's place.
func plainTotal(src, dst uint32, b []byte) int {
	total := int(src/65536) + int(src%65536) + int(dst/65536) + int(dst%65536) + 17 + len(b)
	for i, x := range b {
		switch {
		case i == 6 || i == 7:
		case i%2 == 0:
			total += int(x) * 256
		default:
			total += int(x)
		}
	}
	return total
}

// plainSum is what is missing up to a multiple of 65535: 65535 where nothing is, and so never 0.
func plainSum(src, dst uint32, b []byte) int { return 65535 - plainTotal(src, dst, b)%65535 }

// mend lays the right sum for the bytes up to the length that stands there.
func mend(src, dst uint32, b []byte) []byte {
	sum := plainSum(src, dst, b[:plainWord(b, 4)])
	b[6], b[7] = byte(sum/256), byte(sum%256)
	return b
}

func plainWord(b []byte, at int) int { return int(b[at])*256 + int(b[at+1]) }

// plainForm is the chapter's form, a byte behind the other.
func plainForm(src, dst uint32, u api.Udp) []byte {
	length := 8 + len(u.Data)
	b := []byte{byte(u.Src / 256), byte(u.Src % 256), byte(u.Dst / 256), byte(u.Dst % 256), byte(length / 256), byte(length % 256), 0, 0}
	return mend(src, dst, append(b, u.Data...))
}

// ofZeroSum turns Src so that the sum comes out as 0.
func ofZeroSum(src, dst uint32, u api.Udp) api.Udp {
	u.Src = 0
	u.Src = plainSum(src, dst, plainForm(src, dst, u))
	return u
}

// plainError is P12.2, line by line.
func plainError(src, dst uint32, b []byte) api.Errno {
	if len(b) < 8 {
		return 5
	}
	length, sum := plainWord(b, 4), plainWord(b, 6)
	switch {
	case length < 8, length > len(b):
		return 92
	case sum != 0 && (plainTotal(src, dst, b[:length])+sum)%65535 != 0: // the total is never 0 itself: 17 is in it
		return 93
	case plainWord(b, 2) == 0:
		return 120
	}
	return 0
}

func plainRead(b []byte) api.Udp {
	return api.Udp{Src: plainWord(b, 0), Dst: plainWord(b, 2), Data: b[8:plainWord(b, 4)]}
}

func same(x, y api.Udp) bool { return x.Src == y.Src && x.Dst == y.Dst && bytes.Equal(x.Data, y.Data) }

func checkEncode(t *testing.T, src, dst uint32, u api.Udp) {
	t.Helper()
	if b, e := udp.Encode(src, dst, u); e != api.OK || !bytes.Equal(b, plainForm(src, dst, u)) {
		t.Errorf("Encode(%x, %x, %d to %d, %d bytes): % x, %d, want % x", src, dst, u.Src, u.Dst, len(u.Data), b, e, plainForm(src, dst, u))
	}
}

// checkUnlaid: an error, beside which there are no bytes.
func checkUnlaid(t *testing.T, u api.Udp, err api.Errno) {
	t.Helper()
	if b, e := udp.Encode(two, one, u); e != err || len(b) != 0 {
		t.Errorf("Encode(%d to %d, %d bytes): % x, %d, want none, %d", u.Src, u.Dst, len(u.Data), b, e, err)
	}
}

func checkTaken(t *testing.T, src, dst uint32, b []byte) {
	t.Helper()
	want := plainRead(b)
	if u, e := udp.Decode(src, dst, b); e != api.OK || !same(u, want) {
		t.Errorf("Decode(%x, %x, % x): %v, %d, want %v", src, dst, b, u, e, want)
	}
}

// checkRefused: an error, beside which there are no ports and no bytes.
func checkRefused(t *testing.T, src, dst uint32, b []byte, err api.Errno) {
	t.Helper()
	if u, e := udp.Decode(src, dst, b); e != err || !same(u, api.Udp{}) {
		t.Errorf("Decode(%x, %x, % x): %v, %d, want none, %d", src, dst, b, u, e, err)
	}
}

// checkDecode holds Decode against what the chapter says of these bytes, whichever it is.
func checkDecode(t *testing.T, src, dst uint32, b []byte) {
	t.Helper()
	if err := plainError(src, dst, b); err != api.OK {
		checkRefused(t, src, dst, b, err)
	} else {
		checkTaken(t, src, dst, b)
	}
}
