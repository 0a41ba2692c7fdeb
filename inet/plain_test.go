package inet_test

import (
	"bytes"
	"math"
	"math/rand/v2"
	"testing"

	"slipway/api"
	"slipway/inet"
)

const (
	one = 0x0a000001
	two = 0x0a000002
)

// chapterHead is the one of the chapter's examples.
func chapterHead() api.Ip {
	return api.Ip{Id: 7, Ttl: 64, Proto: 17, Keep: true, Src: two, Dst: one}
}

// chapterBytes are that head with 61 62 behind it.
func chapterBytes() []byte {
	return []byte{
		0x45, 0, 0, 0x16, 0, 7, 0x40, 0, 0x40, 0x11, 0x26, 0xce,
		10, 0, 0, 2, 10, 0, 0, 1, 0x61, 0x62,
	}
}

// draws is the same row of numbers at each run: a fault that it shows can be looked at again.
func draws() *rand.Rand { return rand.New(rand.NewPCG(9, 1)) }

func someBytes(r *rand.Rand, n int) []byte {
	b := make([]byte, n)
	for i := range b {
		b[i] = byte(r.Uint32())
	}
	return b
}

func someHead(r *rand.Rand) api.Ip {
	return api.Ip{
		Tos: r.IntN(256), Id: r.IntN(65536), Ttl: 1 + r.IntN(255), Proto: r.IntN(256),
		Keep: r.IntN(2) == 1, Src: r.Uint32(), Dst: r.Uint32(),
	}
}

// edgeHeads are such whose numbers are the least and the greatest that a head has.
func edgeHeads() []api.Ip {
	least := api.Ip{Ttl: 1}
	most := api.Ip{Tos: 255, Id: 65535, Ttl: 255, Proto: 255, Keep: true, Src: math.MaxUint32, Dst: math.MaxUint32}
	return []api.Ip{least, most, chapterHead(), headOfSumZero(chapterHead(), 0), headOfSumZero(least, 2), headOfSumZero(most, 1480)}
}

// someData is not all alike, so that a byte at another's place is seen.
func someData(n int) []byte { return someBytes(draws(), n) }

// plainTotal is the sum of a head's words, with nothing in the sum's place.
func plainTotal(b []byte) int {
	total := 0
	for i := 0; i < 20; i += 2 {
		if i != 10 {
			total += int(b[i])*256 + int(b[i+1])
		}
	}
	return total
}

// mend lays the right sum: what is missing up to a multiple of 65535.
func mend(b []byte) []byte {
	sum := 65534 - (plainTotal(b)+65534)%65535
	b[10], b[11] = byte(sum/256), byte(sum%256)
	return b
}

// headOfSumZero turns Id so that the sum of the head is 0 with n bytes of data.
func headOfSumZero(h api.Ip, n int) api.Ip {
	h.Id = 0
	b := plainForm(h, make([]byte, n))
	h.Id = int(b[10])*256 + int(b[11])
	return h
}

// plainForm is the chapter's table of bytes, one behind the other.
func plainForm(h api.Ip, data []byte) []byte {
	length := 20 + len(data)
	keep := byte(0)
	if h.Keep {
		keep = 64
	}
	b := []byte{69, byte(h.Tos), byte(length / 256), byte(length % 256), byte(h.Id / 256), byte(h.Id % 256), keep, 0, byte(h.Ttl), byte(h.Proto), 0, 0}
	b = append(b, plainAddress(h.Src)...)
	b = append(b, plainAddress(h.Dst)...)
	return append(mend(b), data...)
}

func plainAddress(ip uint32) []byte {
	return []byte{byte(ip / (1 << 24)), byte(ip / (1 << 16)), byte(ip / 256), byte(ip)}
}

// plainError is P9.2, line by line.
func plainError(b []byte) api.Errno {
	if len(b) < 20 {
		return 5
	}
	length, flags := int(b[2])*256+int(b[3]), int(b[6])*256+int(b[7])
	sum := plainTotal(b) + int(b[10])*256 + int(b[11])
	switch {
	case b[0]/16 != 4:
		return 90
	case b[0]%16 > 5:
		return 91
	case b[0]%16 < 5, length < 20, length > len(b):
		return 92
	case sum%65535 != 0: // it is never 0 itself: byte 0 is none here
		return 93
	case flags/8192%2 == 1, flags%8192 != 0:
		return 94
	case b[8] == 0:
		return 95
	}
	return 0
}

// plainRead is what stands at a head's places.
func plainRead(b []byte) (api.Ip, []byte) {
	h := api.Ip{Tos: int(b[1]), Id: int(b[4])*256 + int(b[5]), Ttl: int(b[8]), Proto: int(b[9]), Keep: b[6]/64%2 == 1}
	for i := range 4 {
		h.Src, h.Dst = h.Src*256+uint32(b[12+i]), h.Dst*256+uint32(b[16+i])
	}
	return h, b[20 : int(b[2])*256+int(b[3])]
}

func checkEncode(t *testing.T, h api.Ip, data []byte) {
	t.Helper()
	if b, e := inet.Encode(h, data); e != api.OK || !bytes.Equal(b, plainForm(h, data)) {
		t.Errorf("Encode(%v, %d bytes): % x, %d, want % x", h, len(data), b, e, plainForm(h, data))
	}
}

// checkUnlaid: an error, beside which there are no bytes.
func checkUnlaid(t *testing.T, h api.Ip, data []byte, err api.Errno) {
	t.Helper()
	if b, e := inet.Encode(h, data); e != err || len(b) != 0 {
		t.Errorf("Encode(%v, %d bytes): % x, %d, want none, %d", h, len(data), b, e, err)
	}
}

func checkTaken(t *testing.T, b []byte) {
	t.Helper()
	head, data := plainRead(b)
	if h, d, e := inet.Decode(b); e != api.OK || h != head || !bytes.Equal(d, data) {
		t.Errorf("Decode(% x): %v, % x, %d, want %v", b, h, d, e, head)
	}
}

// checkRefused: an error, beside which the head and the data are none.
func checkRefused(t *testing.T, b []byte, err api.Errno) {
	t.Helper()
	if h, d, e := inet.Decode(b); e != err || h != (api.Ip{}) || len(d) != 0 {
		t.Errorf("Decode(% x): %v, % x, %d, want none, %d", b, h, d, e, err)
	}
}

// checkDecode holds Decode against what the chapter says of these bytes, whichever it is.
func checkDecode(t *testing.T, b []byte) {
	t.Helper()
	if err := plainError(b); err != api.OK {
		checkRefused(t, b, err)
	} else {
		checkTaken(t, b)
	}
}
