package digest_test

import (
	"bytes"
	"crypto/sha256"
	"testing"

	"slipway/digest"
)

// TestHashExamples: P2.2, the chapter's table.
func TestHashExamples(t *testing.T) {
	h := digest.New()
	if h == nil {
		t.Fatal("New answers nil")
	}
	if h.Len() != 0 {
		t.Errorf("Len of a new Hash: %d", h.Len())
	}
	if h.Sum() != sha256.Sum256(nil) {
		t.Error("Sum of a new Hash isn't that of no bytes")
	}
	h.Write([]byte("ab"))
	if h.Len() != 2 || h.Sum() != sha256.Sum256([]byte("ab")) {
		t.Errorf("behind ab: %d, %x", h.Len(), h.Sum())
	}
	h.Write(nil)
	h.Write([]byte{})
	h.Write([]byte("c"))
	for range 2 {
		if h.Sum() != sha256.Sum256([]byte("abc")) {
			t.Errorf("behind abc: %x", h.Sum())
		}
	}
	if h.Len() != 3 {
		t.Errorf("Len behind abc: %d", h.Len())
	}
}

// TestHashByteByByte: P2.2 and P2.4: a Sum, asked twice, and a Len behind every byte, through the ends of blocks and all places of the tail.
func TestHashByteByByte(t *testing.T) {
	b := someBytes(draws(), 400)
	h := digest.New()
	for n := range len(b) {
		want := sha256.Sum256(b[:n])
		if got := h.Sum(); got != want {
			t.Errorf("Sum behind %d bytes: %x, want %x", n, got, want)
		}
		if got := h.Sum(); got != want {
			t.Errorf("second Sum behind %d bytes: %x, want %x", n, got, want)
		}
		if h.Len() != n {
			t.Errorf("Len behind %d bytes: %d", n, h.Len())
		}
		h.Write(b[n : n+1])
	}
}

// TestHashCutInThree: P2.4: two cuts anywhere, with a Sum in between and without.
func TestHashCutInThree(t *testing.T) {
	b := someBytes(draws(), 131)
	want := sha256.Sum256(b)
	for from := range len(b) + 1 {
		for to := from; to <= len(b); to++ {
			plain, asked := digest.New(), digest.New()
			plain.Write(b[:from])
			asked.Write(b[:from])
			asked.Sum()
			plain.Write(b[from:to])
			asked.Write(b[from:to])
			if asked.Sum() != sha256.Sum256(b[:to]) {
				t.Fatalf("cut at %d: another Sum behind %d bytes", from, to)
			}
			plain.Write(b[to:])
			asked.Write(b[to:])
			if plain.Sum() != want || asked.Sum() != want {
				t.Fatalf("cut at %d and %d: %x, %x, want %x", from, to, plain.Sum(), asked.Sum(), want)
			}
			if plain.Len() != len(b) || asked.Len() != len(b) {
				t.Fatalf("cut at %d and %d: Len %d, %d", from, to, plain.Len(), asked.Len())
			}
		}
	}
}

// TestHashOfAnyPieces: P2.4: pieces longer than several blocks too.
func TestHashOfAnyPieces(t *testing.T) {
	r := draws()
	for range 200 {
		b := someBytes(r, r.Intn(2000))
		h := digest.New()
		n := 0
		for _, part := range cutAnywhere(r, b) {
			h.Write(part)
			n += len(part)
			if r.Intn(3) == 0 && h.Sum() != sha256.Sum256(b[:n]) {
				t.Fatalf("Sum behind %d bytes of % x", n, b)
			}
			if h.Len() != n {
				t.Fatalf("Len behind %d bytes: %d", n, h.Len())
			}
		}
		if h.Sum() != sha256.Sum256(b) || h.Sum() != digest.Sum(b) {
			t.Fatalf("Sum of pieces of % x: %x", b, h.Sum())
		}
	}
}

// TestHashesApart: P2.4: two Hashes have nothing in common.
func TestHashesApart(t *testing.T) {
	r := draws()
	h, g := digest.New(), digest.New()
	hs, gs := []byte{}, []byte{}
	for range 50 {
		b, c := someBytes(r, r.Intn(100)), someBytes(r, r.Intn(100))
		h.Write(b)
		g.Write(c)
		hs, gs = append(hs, b...), append(gs, c...)
		digest.Sum(b, c)
		if h.Sum() != sha256.Sum256(hs) || g.Sum() != sha256.Sum256(gs) {
			t.Fatalf("behind %d and %d bytes: %x, %x", len(hs), len(gs), h.Sum(), g.Sum())
		}
		if h.Len() != len(hs) || g.Len() != len(gs) {
			t.Fatalf("Len: %d, %d, want %d, %d", h.Len(), g.Len(), len(hs), len(gs))
		}
	}
	if n := digest.New(); n.Len() != 0 || n.Sum() != sha256.Sum256(nil) {
		t.Error("a later Hash has something of the earlier ones")
	}
}

// TestWriteKeepsNothing: R2: what was written may be changed behind the call; the call changes neither it nor the room behind it.
func TestWriteKeepsNothing(t *testing.T) {
	for _, n := range []int{1, 63, 64, 65, 128, 150} {
		room := someBytes(draws(), 200)
		was := bytes.Clone(room)
		h := digest.New()
		h.Write(room[:n])
		h.Sum()
		if !bytes.Equal(room, was) {
			t.Errorf("Write of %d bytes changed them, or the room behind them", n)
		}
		clear(room)
		h.Write([]byte{7})
		if h.Sum() != sha256.Sum256(append(was[:n:n], 7)) {
			t.Errorf("a Hash of %d bytes hangs on what was handed in", n)
		}
	}
}

// TestSumIsACopy: R2: what was answered stays as it is.
func TestSumIsACopy(t *testing.T) {
	h := digest.New()
	first := h.Sum()
	h.Write([]byte("more"))
	if first != sha256.Sum256(nil) {
		t.Error("an earlier answer changed")
	}
	first[0]++
	if h.Sum() != sha256.Sum256([]byte("more")) {
		t.Error("a Hash hangs on an earlier answer")
	}
}
