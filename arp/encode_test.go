package arp_test

import (
	"bytes"
	"math"
	"math/rand/v2"
	"testing"

	"slipway/api"
	"slipway/arp"
)

const (
	one  = 0x0a000001
	nine = 0x0a000009
	ten  = 0x0a00000a
)

func stationA() api.Mac { return api.Mac{2, 0, 0, 0, 0, 10} }

func stationB() api.Mac { return api.Mac{2, 0, 0, 0, 0, 11} }

func everyone() api.Mac { return api.Mac{255, 255, 255, 255, 255, 255} }

// draws is the same row of numbers at each run: a fault that it shows can be looked at again.
func draws() *rand.Rand { return rand.New(rand.NewPCG(8, 1)) }

func someBytes(r *rand.Rand, n int) []byte {
	b := make([]byte, n)
	for i := range b {
		b[i] = byte(r.Uint32())
	}
	return b
}

func someStation(r *rand.Rand) api.Mac { return api.Mac(someBytes(r, 6)) }

func someMessage(r *rand.Rand) api.Arp {
	return api.Arp{Op: 1 + r.IntN(2), SrcMac: someStation(r), SrcIp: r.Uint32(), DstMac: someStation(r), DstIp: r.Uint32()}
}

// strangeOps are neither 1 nor 2, though the lowest bits of some are.
func strangeOps() []int {
	return []int{0, 3, 4, 255, 256, 257, 258, 513, 65535, 65536, 65537, 65538, 1<<32 + 1, 1<<32 + 2, math.MaxInt, math.MaxInt - 1, -1, -2, -65535, math.MinInt, math.MinInt + 1, math.MinInt + 2}
}

// edgeStations are those of zeros and of 255s, and such that lie one bit beside them.
func edgeStations() []api.Mac {
	return []api.Mac{{}, everyone(), stationA(), stationB(), {1}, {0, 0, 0, 0, 0, 1}, {255, 255, 255, 255, 255, 254}, {0x80, 0x91, 0xa2, 0xb3, 0xc4, 0xd5}}
}

func edgeAddresses() []uint32 {
	return []uint32{0, 1, one, nine, 0x7fffffff, 0x80000000, 0x01020304, math.MaxUint32 - 1, math.MaxUint32}
}

// plainForm is the chapter's row of bytes, one behind the other.
func plainForm(p api.Arp) []byte {
	b := []byte{0, 1, 8, 0, 6, 4, byte(p.Op / 256), byte(p.Op % 256)}
	b = append(b, p.SrcMac[:]...)
	b = append(b, plainAddress(p.SrcIp)...)
	b = append(b, p.DstMac[:]...)
	return append(b, plainAddress(p.DstIp)...)
}

func plainAddress(ip uint32) []byte {
	return []byte{byte(ip / (1 << 24)), byte(ip / (1 << 16)), byte(ip / 256), byte(ip)}
}

func checkEncode(t *testing.T, p api.Arp) {
	t.Helper()
	if b, e := arp.Encode(p); e != api.OK || !bytes.Equal(b, plainForm(p)) {
		t.Errorf("Encode(%v): % x, %d, want % x", p, b, e, plainForm(p))
	}
}

// checkUnsaid: an error, beside which there are no bytes.
func checkUnsaid(t *testing.T, p api.Arp) {
	t.Helper()
	if b, e := arp.Encode(p); e != api.ErrArp || len(b) != 0 {
		t.Errorf("Encode(%v): % x, %d, want none, %d", p, b, e, api.ErrArp)
	}
}

// TestErrorNumbers: the section Errors.
func TestErrorNumbers(t *testing.T) {
	_, encode := arp.Encode(api.Arp{})
	_, short := arp.Decode(nil)
	_, decode := arp.Decode(make([]byte, 28))
	if encode != 80 || short != 5 || decode != 80 {
		t.Errorf("errors: %d %d %d, want 80 5 80", encode, short, decode)
	}
}

// TestEncodeExamples: P8.1, the chapter's table.
func TestEncodeExamples(t *testing.T) {
	b, e := arp.Encode(arp.Ask(stationA(), ten, one))
	want := []byte{
		0, 1, 8, 0, 6, 4, 0, 1,
		2, 0, 0, 0, 0, 10, 10, 0, 0, 10,
		0, 0, 0, 0, 0, 0, 10, 0, 0, 1,
	}
	if e != api.OK || !bytes.Equal(b, want) {
		t.Errorf("Encode: % x, %d, want % x", b, e, want)
	}
	checkUnsaid(t, api.Arp{Op: 0})
	checkUnsaid(t, api.Arp{Op: 3})
}

// TestEncodePlaces: P8.1, the form: each byte at its place, none taken for its neighbour.
func TestEncodePlaces(t *testing.T) {
	p := api.Arp{Op: 2, SrcMac: api.Mac{11, 12, 13, 14, 15, 16}, SrcIp: 0x15161718, DstMac: api.Mac{31, 32, 33, 34, 35, 36}, DstIp: 0x292a2b2c}
	want := []byte{
		0, 1, 8, 0, 6, 4, 0, 2,
		11, 12, 13, 14, 15, 16, 0x15, 0x16, 0x17, 0x18,
		31, 32, 33, 34, 35, 36, 0x29, 0x2a, 0x2b, 0x2c,
	}
	if b, e := arp.Encode(p); e != api.OK || !bytes.Equal(b, want) {
		t.Errorf("Encode: % x, %d, want % x", b, e, want)
	}
}

// TestEncodeOps: P8.1: of all numbers 1 and 2 alone, whatever stands beside them.
func TestEncodeOps(t *testing.T) {
	r := draws()
	full := someMessage(r)
	for op := -70000; op <= 70000; op++ {
		full.Op = op
		if op == 1 || op == 2 {
			checkEncode(t, full)
			checkEncode(t, api.Arp{Op: op})
		} else {
			checkUnsaid(t, full)
		}
	}
	for _, op := range strangeOps() {
		full.Op = op
		checkUnsaid(t, full)
		checkUnsaid(t, api.Arp{Op: op})
	}
}

// TestEncodeEdges: P8.1: stations and addresses are laid whatever they are.
func TestEncodeEdges(t *testing.T) {
	for _, op := range []int{1, 2} {
		for _, src := range edgeStations() {
			for _, dst := range edgeStations() {
				for _, from := range edgeAddresses() {
					for _, to := range edgeAddresses() {
						checkEncode(t, api.Arp{Op: op, SrcMac: src, SrcIp: from, DstMac: dst, DstIp: to})
					}
				}
			}
		}
	}
}

// TestEncodeAny: P8.1, messages of all kinds.
func TestEncodeAny(t *testing.T) {
	r := draws()
	for range 20000 {
		checkEncode(t, someMessage(r))
	}
}
