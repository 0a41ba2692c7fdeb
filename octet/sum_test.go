package octet_test

import (
	"bytes"
	"testing"

	"slipway/octet"
)

// plainSum is the sum by the chapter's words, with the remainder in the place of the folding.
func plainSum(b []byte) uint16 {
	total := uint64(0)
	for i, x := range b {
		if i%2 == 0 {
			total += uint64(x) * 256
		} else {
			total += uint64(x)
		}
	}
	return 0xffff - plainFold(total)
}

// plainFold: folding keeps the remainder by FFFF, and is 0 of 0 alone.
func plainFold(u uint64) uint16 {
	if u == 0 {
		return 0
	}
	return uint16((u-1)%0xffff + 1)
}

// TestSumExamples: P1.2.
func TestSumExamples(t *testing.T) {
	for _, x := range []struct {
		parts [][]byte
		want  uint16
	}{
		{nil, 0xffff},
		{[][]byte{nil, {}}, 0xffff},
		{[][]byte{{0}}, 0xffff},
		{[][]byte{{0, 0}}, 0xffff},
		{[][]byte{{0, 1, 0xf2, 3, 0xf4, 0xf5, 0xf6, 0xf7}}, 0x220d},
		{[][]byte{{0x12}}, 0xedff},
		{[][]byte{{0x12}, {0x34}}, 0xedcb},
		{[][]byte{{0x12, 0x34}}, 0xedcb},
		{[][]byte{{0x12}, nil, {}, {0x34}}, 0xedcb},
		{[][]byte{nil, {0x12}, {0x34, 0x56}}, 0xffff - 0x1234 - 0x5600},
		{[][]byte{{0xff, 0xff}}, 0},
		{[][]byte{{0, 1}, {0xff, 0xff}}, 0xfffe},
		{[][]byte{{0xff, 0xff, 0xff, 0xff, 0, 1}}, 0xfffe}, // 1FFFF is folded twice
		{[][]byte{{0xff}}, 0x00ff},
	} {
		if got := octet.Sum(x.parts...); got != x.want {
			t.Errorf("Sum(% x): %x, want %x", x.parts, got, x.want)
		}
	}
}

// TestSumOfAnyBytes: P1.2, of all lengths up to a frame's, and of more than 32 bits hold.
func TestSumOfAnyBytes(t *testing.T) {
	r := draws()
	for n := range 1515 {
		b := someBytes(r, n)
		if got, want := octet.Sum(b), plainSum(b); got != want {
			t.Errorf("Sum of %d bytes: %x, want %x", n, got, want)
		}
	}
	for _, n := range []int{1 << 17, 1<<18 - 1, 1 << 18, 1<<18 + 1} {
		b := bytes.Repeat([]byte{0xff}, n)
		if got, want := octet.Sum(b), plainSum(b); got != want {
			t.Errorf("Sum of %d bytes FF: %x, want %x", n, got, want)
		}
	}
	if got := octet.Sum(make([]byte, 1000000)); got != 0xffff {
		t.Errorf("Sum of a million zeros: %x", got)
	}
}

// TestSumOfAnyParts: P1.2: how the bytes are cut into parts doesn't matter.
func TestSumOfAnyParts(t *testing.T) {
	r := draws()
	for n := range 10 {
		b := someBytes(r, n)
		for cuts := range 1 << n {
			if got, want := octet.Sum(cutAt(b, cuts)...), plainSum(b); got != want {
				t.Errorf("Sum(% x): %x, want %x", cutAt(b, cuts), got, want)
			}
		}
	}
}

// cutAt cuts b behind each byte whose bit in cuts is set; an empty part stands between each two.
func cutAt(b []byte, cuts int) [][]byte {
	var parts [][]byte
	from := 0
	for i := range b {
		if cuts>>i&1 == 1 {
			parts = append(parts, b[from:i+1], nil)
			from = i + 1
		}
	}
	return append(parts, b[from:])
}

// TestSumChangesNothing: R2.
func TestSumChangesNothing(t *testing.T) {
	whole := []byte{1, 2, 3, 4, 5, 6}
	parts := make([][]byte, 2, 4)
	parts[0], parts[1] = whole[:3], whole[3:5]
	octet.Sum(parts...)
	if !bytes.Equal(whole, []byte{1, 2, 3, 4, 5, 6}) {
		t.Errorf("Sum changed the bytes: % x", whole)
	}
	if !bytes.Equal(parts[0], whole[:3]) || !bytes.Equal(parts[1], whole[3:5]) || parts[:4][2] != nil || parts[:4][3] != nil {
		t.Errorf("Sum changed the list of parts: % x", parts[:4])
	}
}

// TestTurn: P1.3.
func TestTurn(t *testing.T) {
	for _, x := range []struct{ sum, old, now, want uint16 }{
		{0x220d, 0xf203, 0, 0x1411},
		{0xedcb, 0x1234, 0, 0},
		{0xffff, 0, 1, 0xfffe},
		{0xffff, 0, 0, 0},
		{0, 0, 1, 0xfffe}, // 1FFFF is folded twice
		{0, 0, 0xffff, 0},
		{0xffff, 0xffff, 0, 0xffff},
		{0xffff, 0xffff, 0xffff, 0},
		{0, 0xffff, 0, 0},
	} {
		if got := octet.Turn(x.sum, x.old, x.now); got != x.want {
			t.Errorf("Turn(%x, %x, %x): %x, want %x", x.sum, x.old, x.now, got, x.want)
		}
	}
	edges := []uint16{0, 1, 2, 0xff, 0x100, 0x1234, 0x7fff, 0x8000, 0xfffd, 0xfffe, 0xffff}
	for _, sum := range edges {
		for _, old := range edges {
			for _, now := range edges {
				want := 0xffff - plainFold(uint64(0xffff-sum)+uint64(0xffff-old)+uint64(now))
				if got := octet.Turn(sum, old, now); got != want {
					t.Errorf("Turn(%x, %x, %x): %x, want %x", sum, old, now, got, want)
				}
			}
		}
	}
}

// TestSumLaid: P1.8.
func TestSumLaid(t *testing.T) {
	r := draws()
	for n := 2; n < 80; n++ {
		for at := 0; at+2 <= n; at += 2 {
			b := someBytes(r, n)
			b[at], b[at+1] = 0, 0
			copy(b[at:], octet.Put(uint64(octet.Sum(b)), 2))
			if got := octet.Sum(b); got != 0 {
				t.Errorf("Sum of % x with its sum at %d: %x", b, at, got)
			}
		}
	}
	b := make([]byte, 20)
	copy(b[10:], octet.Put(uint64(octet.Sum(b)), 2))
	if got := octet.Sum(b); got != 0 {
		t.Errorf("Sum of zeros with their sum: %x", got)
	}
}

// TestTurnIsTheSumBehind: P1.9.
func TestTurnIsTheSumBehind(t *testing.T) {
	r := draws()
	words := []uint16{0, 1, 0x00ff, 0xff00, 0x8000, 0xfffe, 0xffff}
	for n := 2; n < 40; n++ {
		for at := 0; at+2 <= n; at += 2 {
			for _, now := range append(words, uint16(r.Uint32())) {
				checkTurn(t, someBytes(r, n), at, now)
				checkTurn(t, make([]byte, n), at, now)
			}
		}
	}
	checkTurn(t, []byte{0x12, 0x34}, 0, 0)
}

func checkTurn(t *testing.T, b []byte, at int, now uint16) {
	t.Helper()
	ahead := octet.Sum(b)
	old := uint16(b[at])<<8 | uint16(b[at+1])
	b[at], b[at+1] = byte(now>>8), byte(now)
	got, behind := octet.Turn(ahead, old, now), octet.Sum(b)
	if bytes.Count(b, []byte{0}) == len(b) {
		if got != 0 || behind != 0xffff {
			t.Errorf("all zeros behind %x: Turn %x, Sum %x, want 0, ffff", old, got, behind)
		}
		return
	}
	if got != behind {
		t.Errorf("% x at %d, from %x on: Turn %x, Sum %x", b, at, old, got, behind)
	}
}
