package icmp_test

import (
	"bytes"
	"math"
	"math/rand/v2"
	"testing"

	"slipway/api"
	"slipway/icmp"
)

// chapterQuestion is the one of the chapter's examples.
func chapterQuestion() api.Icmp {
	return api.Icmp{Kind: api.IcmpAsk, Rest: 0x00010002, Data: []byte{0x61, 0x62}}
}

func chapterBytes() []byte { return []byte{8, 0, 0x96, 0x9a, 0, 1, 0, 2, 0x61, 0x62} }

// draws is the same row of numbers at each run: a fault that it shows can be looked at again.
func draws() *rand.Rand { return rand.New(rand.NewPCG(14, 1)) }

func someBytes(r *rand.Rand, n int) []byte {
	b := make([]byte, n)
	for i := range b {
		b[i] = byte(r.Uint32())
	}
	return b
}

// someData is not all alike, so that a byte at another's place is seen.
func someData(n int) []byte { return someBytes(draws(), n) }

func kinds() []int { return []int{0, 3, 8} }

func someMessage(r *rand.Rand, n int) api.Icmp {
	return api.Icmp{Kind: kinds()[r.IntN(3)], Code: r.IntN(256), Rest: r.Uint32(), Data: someBytes(r, n)}
}

// otherKinds are the neighbours of the three, and such whose lowest bits alone are one of them.
func otherKinds() []int {
	return []int{-256, -253, -248, -8, -3, -2, -1, 1, 2, 4, 5, 7, 9, 10, 11, 254, 255, 256, 259, 264, 265, 65536, 65544, 1 << 32, 1<<32 + 8, math.MaxInt, math.MinInt, math.MinInt + 3}
}

// strangeCodes are beyond the bounds, though the lowest bits of some are not.
func strangeCodes() []int {
	return []int{-256, -255, -2, -1, 256, 257, 511, 512, 65536, 1<<32 + 1, math.MaxInt, math.MinInt, math.MinInt + 1}
}

// edgeMessages have each kind, the least and the greatest numbers, and all edges of Data, of an even and of an odd number of bytes.
func edgeMessages() []api.Icmp {
	list := []api.Icmp{}
	for _, kind := range kinds() {
		for _, code := range []int{0, 1, 254, 255} {
			for _, rest := range []uint32{0, 1, 0xffff, 0x10000, 0xffff0000, 0x80000000, math.MaxUint32} {
				for _, n := range []int{0, 1, 2, 3, 1471, 1472} {
					list = append(list, api.Icmp{Kind: kind, Code: code, Rest: rest, Data: someData(n)})
				}
			}
		}
	}
	return list
}

// plainSum is what the words add up to, with nothing in the sum's place, turned: 0 alone adds up to 0, and every other multiple of 65535 to 65535.
func plainSum(b []byte) int {
	total := 0
	for i, x := range b {
		switch {
		case i == 2 || i == 3:
		case i%2 == 0:
			total += int(x) * 256
		default:
			total += int(x)
		}
	}
	if total == 0 {
		return 65535
	}
	return 65535 - (1 + (total-1)%65535)
}

// mend lays the right sum.
func mend(b []byte) []byte {
	sum := plainSum(b)
	b[2], b[3] = byte(sum/256), byte(sum%256)
	return b
}

// plainForm is the chapter's form, a byte behind the other.
func plainForm(m api.Icmp) []byte {
	b := []byte{byte(m.Kind), byte(m.Code), 0, 0, byte(m.Rest / 0x1000000), byte(m.Rest / 0x10000 % 256), byte(m.Rest / 256 % 256), byte(m.Rest % 256)}
	return mend(append(b, m.Data...))
}

// ofZeroSum turns Rest so that the sum comes out as 0.
func ofZeroSum(m api.Icmp) api.Icmp {
	m.Rest = 0
	m.Rest = uint32(plainSum(plainForm(m)))
	return m
}

// plainUnlaid is P14.1, line by line.
func plainUnlaid(m api.Icmp) api.Errno {
	switch {
	case m.Kind != 0 && m.Kind != 3 && m.Kind != 8:
		return 140
	case m.Code < 0, m.Code > 255:
		return 1
	case len(m.Data) > 1472:
		return 2
	}
	return 0
}

// plainError is P14.2, line by line.
func plainError(b []byte) api.Errno {
	switch {
	case len(b) < 8:
		return 5
	case len(b) > 1480:
		return 2
	case int(b[2])*256+int(b[3]) != plainSum(b):
		return 93
	case b[0] != 0 && b[0] != 3 && b[0] != 8:
		return 140
	}
	return 0
}

func plainRead(b []byte) api.Icmp {
	rest := uint32(0)
	for _, x := range b[4:8] {
		rest = rest*256 + uint32(x)
	}
	return api.Icmp{Kind: int(b[0]), Code: int(b[1]), Rest: rest, Data: b[8:]}
}

func same(x, y api.Icmp) bool {
	return x.Kind == y.Kind && x.Code == y.Code && x.Rest == y.Rest && bytes.Equal(x.Data, y.Data)
}

func checkLaid(t *testing.T, m api.Icmp) {
	t.Helper()
	if b, e := icmp.Encode(m); e != api.OK || !bytes.Equal(b, plainForm(m)) {
		t.Errorf("Encode(%d, %d, %x, %d bytes): % x, %d, want % x", m.Kind, m.Code, m.Rest, len(m.Data), b, e, plainForm(m))
	}
}

// checkUnlaid: an error, beside which there are no bytes.
func checkUnlaid(t *testing.T, m api.Icmp, err api.Errno) {
	t.Helper()
	if b, e := icmp.Encode(m); e != err || len(b) != 0 {
		t.Errorf("Encode(%d, %d, %x, %d bytes): % x, %d, want none, %d", m.Kind, m.Code, m.Rest, len(m.Data), b, e, err)
	}
}

// checkEncode holds Encode against what the chapter says of this message, whichever it is.
func checkEncode(t *testing.T, m api.Icmp) {
	t.Helper()
	if err := plainUnlaid(m); err != api.OK {
		checkUnlaid(t, m, err)
	} else {
		checkLaid(t, m)
	}
}

func checkTaken(t *testing.T, b []byte) {
	t.Helper()
	want := plainRead(b)
	if m, e := icmp.Decode(b); e != api.OK || !same(m, want) {
		t.Errorf("Decode(% x): %v, %d, want %v", b, m, e, want)
	}
}

// checkRefused: an error, beside which there are no numbers and no bytes.
func checkRefused(t *testing.T, b []byte, err api.Errno) {
	t.Helper()
	if m, e := icmp.Decode(b); e != err || !same(m, api.Icmp{}) {
		t.Errorf("Decode(% x): %v, %d, want none, %d", b, m, e, err)
	}
}

// checkDecode holds Decode against what the chapter says of these bytes, whichever it is.
func checkDecode(t *testing.T, b []byte) {
	t.Helper()
	if err := plainError(b); err != api.OK {
		checkRefused(t, b, err)
	} else {
		checkTaken(t, b)
	}
}

// checkAnswer holds Answer against what the chapter says of this message.
func checkAnswer(t *testing.T, m api.Icmp) {
	t.Helper()
	want, yes := api.Icmp{}, m.Kind == 8 && m.Code == 0
	if yes {
		want = api.Icmp{Kind: 0, Code: 0, Rest: m.Rest, Data: m.Data}
	}
	if a, ok := icmp.Answer(m); ok != yes || !same(a, want) {
		t.Errorf("Answer(%d, %d, %x, %d bytes): %v, %v, want %v, %v", m.Kind, m.Code, m.Rest, len(m.Data), a, ok, want, yes)
	}
}

// checkRefuse holds Refuse against what the chapter says of this packet.
func checkRefuse(t *testing.T, code int, packet []byte) {
	t.Helper()
	told := packet
	if len(packet) > 28 {
		told = packet[:28]
	}
	want := api.Icmp{Kind: 3, Code: code, Rest: 0, Data: told}
	if m := icmp.Refuse(code, packet); !same(m, want) {
		t.Errorf("Refuse(%d, %d bytes): %v, want %v", code, len(packet), m, want)
	}
}
