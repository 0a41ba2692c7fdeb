package inet_test

import (
	"bytes"
	"testing"

	"slipway/api"
	"slipway/inet"
)

// turned is the chapter's first bytes with one of them changed.
func turned(at int, x byte) []byte {
	b := chapterBytes()
	b[at] = x
	return b
}

// TestDecodeExamples: P9.2, the chapter's table.
func TestDecodeExamples(t *testing.T) {
	for _, b := range [][]byte{chapterBytes(), append(chapterBytes(), make([]byte, 24)...)} {
		if h, d, e := inet.Decode(b); e != api.OK || h != chapterHead() || string(d) != "ab" {
			t.Errorf("Decode(% x): %v, %q, %d", b, h, d, e)
		}
	}
	checkRefused(t, make([]byte, 19), api.ErrShort)
	checkRefused(t, make([]byte, 20), api.ErrVersion)
	checkRefused(t, turned(0, 0x46), api.ErrOptions)
	checkRefused(t, turned(0, 0x44), api.ErrLength)
	checkRefused(t, turned(0, 0x55), api.ErrVersion)
	checkRefused(t, chapterBytes()[:21], api.ErrLength)
	checkRefused(t, turned(3, 0x13), api.ErrLength)
	checkRefused(t, turned(19, 2), api.ErrSum)
	for flags, want := range map[[2]byte]api.Errno{{0x20, 0}: api.ErrFragment, {0, 1}: api.ErrFragment} {
		b := chapterBytes()
		b[6], b[7] = flags[0], flags[1]
		checkRefused(t, mend(b), want)
	}
	checkRefused(t, mend(turned(8, 0)), api.ErrTtl)
}

// TestDecodePlaces: P9.2, the form: each number is told from its place, none taken for its neighbour.
func TestDecodePlaces(t *testing.T) {
	b := []byte{
		0x45, 0x11, 0, 0x17, 0x14, 0x15, 0, 0, 0x18, 0x19, 0xd1, 0xe8,
		0x2c, 0x2d, 0x2e, 0x2f, 0x30, 0x31, 0x32, 0x33, 0x41, 0x42, 0x43, 0x44,
	}
	want := api.Ip{Tos: 0x11, Id: 0x1415, Ttl: 0x18, Proto: 0x19, Src: 0x2c2d2e2f, Dst: 0x30313233}
	if h, d, e := inet.Decode(b); e != api.OK || h != want || string(d) != "ABC" {
		t.Errorf("Decode: %v, %q, %d, want %v", h, d, e, want)
	}
}

// TestDecodeLengths: P9.2: bytes of every length from none to beyond 20, of several kinds.
func TestDecodeLengths(t *testing.T) {
	checkRefused(t, nil, api.ErrShort)
	checkRefused(t, []byte{}, api.ErrShort)
	full := plainForm(chapterHead(), someData(100))
	bare := append(plainForm(chapterHead(), nil), someData(100)...)
	for n := range 120 {
		for _, b := range [][]byte{full, bare, make([]byte, 120), bytes.Repeat([]byte{0xff}, 120), bytes.Repeat([]byte{0x45}, 120)} {
			if b = b[:n:n]; n < 20 {
				checkRefused(t, b, api.ErrShort)
			} else {
				checkDecode(t, b)
			}
		}
	}
}

// TestDecodeLengthIsNotCapacity: what lies behind the bytes that are handed in is not theirs.
func TestDecodeLengthIsNotCapacity(t *testing.T) {
	room := plainForm(chapterHead(), someData(100))
	for n := range 120 {
		if n < 20 {
			checkRefused(t, room[:n], api.ErrShort)
		} else {
			checkRefused(t, room[:n], api.ErrLength)
		}
	}
	checkTaken(t, room)
}

// TestDecodeFirstByte: P9.2: all values of byte 0; of them 45 alone is taken.
func TestDecodeFirstByte(t *testing.T) {
	for x := range 256 {
		b, mended := turned(0, byte(x)), mend(turned(0, byte(x)))
		want := api.ErrVersion
		switch low := x % 16; {
		case x/16 != 4:
		case low > 5:
			want = api.ErrOptions
		case low < 5:
			want = api.ErrLength
		default:
			checkTaken(t, b)
			checkTaken(t, mended)
			continue
		}
		checkRefused(t, b, want)
		checkRefused(t, mended, want)
		checkRefused(t, append(mended, make([]byte, 60)...), want) // as many bytes as a head with options has
	}
}

// TestDecodeLengthTold: P9.2: all numbers of 16 bits as the length, with a right sum, over bytes of several lengths.
func TestDecodeLengthTold(t *testing.T) {
	for _, n := range []int{20, 21, 22, 46, 1500, 1501, 65535, 65536, 70000} {
		b := append(plainForm(chapterHead(), nil), someData(n-20)...)
		for length := range 65536 {
			if n > 2000 && length > 100 && length < 65400 && length%1001 > 1 {
				continue
			}
			b[2], b[3] = byte(length/256), byte(length%256)
			mend(b)
			if length < 20 || length > n {
				checkRefused(t, b, api.ErrLength)
			} else if h, d, e := inet.Decode(b); e != api.OK || h != chapterHead() || !bytes.Equal(d, b[20:length]) {
				t.Fatalf("Decode of %d bytes, length %d: %v, %d bytes, %d", n, length, h, len(d), e)
			}
		}
	}
}

// TestDecodeSums: P9.2: of all sums the right one alone is taken; where that is 0, FFFF too.
func TestDecodeSums(t *testing.T) {
	for _, h := range append(edgeHeads(), someHead(draws())) {
		for _, n := range []int{0, 2, 1480} {
			b := plainForm(h, someData(n))
			right := int(b[10])*256 + int(b[11])
			for sum := range 65536 {
				b[10], b[11] = byte(sum/256), byte(sum%256)
				if sum == right || right == 0 && sum == 65535 {
					checkTaken(t, b)
				} else {
					checkRefused(t, b, api.ErrSum)
				}
			}
		}
	}
}

// TestDecodeSumLooksAtHead: P9.2: the sum is over the first 20 bytes, whatever the data are.
func TestDecodeSumLooksAtHead(t *testing.T) {
	r := draws()
	for n := range 200 {
		checkTaken(t, plainForm(chapterHead(), someBytes(r, n)))
	}
}

// TestDecodeFlags: P9.2: all values of the bytes 6 and 7, and so each of their bits; the highest is not looked at.
func TestDecodeFlags(t *testing.T) {
	for flags := range 65536 {
		b := chapterBytes()
		b[6], b[7] = byte(flags/256), byte(flags%256)
		h, d, e := inet.Decode(mend(b))
		want := chapterHead()
		switch flags {
		case 0, 0x8000:
			want.Keep = false
		case 0x4000, 0xc000:
		default:
			checkRefused(t, b, api.ErrFragment)
			continue
		}
		if e != api.OK || h != want || string(d) != "ab" {
			t.Errorf("Decode with the flags %04x: %v, %q, %d", flags, h, d, e)
		}
	}
}

// TestDecodeTtl: P9.2: all values, of which 0 alone is refused.
func TestDecodeTtl(t *testing.T) {
	for x := range 256 {
		if b := mend(turned(8, byte(x))); x == 0 {
			checkRefused(t, b, api.ErrTtl)
		} else {
			checkTaken(t, b)
		}
	}
}

// TestDecodeEdges: P9.2: every other byte of a head is taken, whatever it is.
func TestDecodeEdges(t *testing.T) {
	for _, place := range []int{1, 4, 5, 9, 12, 13, 14, 15, 16, 17, 18, 19, 20, 21} {
		for x := range 256 {
			checkTaken(t, mend(turned(place, byte(x))))
		}
	}
}

// TestDecodeLooksAtNoTail: P9.2: what stands behind the length is not looked at.
func TestDecodeLooksAtNoTail(t *testing.T) {
	r := draws()
	for n := range 80 {
		h, data := someHead(r), someBytes(r, n%50)
		form := plainForm(h, data)
		for _, tail := range [][]byte{make([]byte, n), bytes.Repeat([]byte{255}, n), someBytes(r, n), bytes.Repeat(form, 2)} {
			if got, d, e := inet.Decode(append(bytes.Clone(form), tail...)); e != api.OK || got != h || !bytes.Equal(d, data) {
				t.Errorf("Decode of %v, % x behind it: %v, % x, %d", h, tail, got, d, e)
			}
		}
	}
}

// TestDecodeAny: P9.2, bytes of all kinds: any at all, nearly right ones, and such with a right sum.
func TestDecodeAny(t *testing.T) {
	r := draws()
	for i := range 100000 {
		b := someBytes(r, i%90)
		checkDecode(t, b)
		if len(b) < 20 {
			continue
		}
		b[0] = 0x45
		checkDecode(t, b)
		b[2], b[3] = 0, byte(r.IntN(len(b)+2))
		checkDecode(t, b)
		checkDecode(t, mend(b))
		b[6], b[7] = b[6]&0xc0, 0
		checkDecode(t, b)
		checkDecode(t, mend(b))
	}
}
