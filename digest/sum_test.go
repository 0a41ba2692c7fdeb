package digest_test

import (
	"bytes"
	"crypto/sha256"
	"math/rand"
	"strings"
	"testing"

	"slipway/digest"
)

// draws has a fixed seed: a test that fails does so again.
func draws() *rand.Rand { return rand.New(rand.NewSource(2)) }

func someBytes(r *rand.Rand, n int) []byte {
	b := make([]byte, n)
	r.Read(b)
	return b
}

// manyA is n times the letter a.
func manyA(n int) []byte { return []byte(strings.Repeat("a", n)) }

// cutAnywhere cuts b into pieces, empty ones among them.
func cutAnywhere(r *rand.Rand, b []byte) [][]byte {
	parts := [][]byte{}
	for len(b) > 0 {
		n := r.Intn(min(len(b), 150) + 1)
		parts = append(parts, b[:n])
		b = b[n:]
	}
	return append(parts, nil)
}

// TestSumExamples: P2.1.
func TestSumExamples(t *testing.T) {
	for _, x := range []struct {
		parts [][]byte
		want  string
	}{
		{nil, "e3b0c44298fc1c149afbf4c8996fb92427ae41e4649b934ca495991b7852b855"},
		{[][]byte{nil}, "e3b0c44298fc1c149afbf4c8996fb92427ae41e4649b934ca495991b7852b855"},
		{[][]byte{{}, nil, {}}, "e3b0c44298fc1c149afbf4c8996fb92427ae41e4649b934ca495991b7852b855"},
		{[][]byte{[]byte("abc")}, "ba7816bf8f01cfea414140de5dae2223b00361a396177a9cb410ff61f20015ad"},
		{[][]byte{[]byte("a"), {}, []byte("bc")}, "ba7816bf8f01cfea414140de5dae2223b00361a396177a9cb410ff61f20015ad"},
		{[][]byte{manyA(55)}, "9f4390f8d30c2dd92ec9f095b65e2b9ae9b0a925a5258e241c9f1e910f734318"},
		{[][]byte{manyA(56)}, "b35439a4ac6f0948b6d6f9e3c6af0f5f590ce20f1bde7090ef7970686ec6738a"},
		{[][]byte{manyA(64)}, "ffe054fe7ae0cb6dc65c3af9b61d5209f439851db43d0ba5997337df154668eb"},
		{[][]byte{[]byte("abcdbcdecdefdefgefghfghighijhijkijkljklmklmnlmnomnopnopq")}, "248d6a61d20638b8e5c026930c3e6039a33ce45964ff2167f6ecedd419db06c1"},
		{[][]byte{manyA(1000000)}, "cdc76e5c9914fb9281a1c7e284d73e67f1809a48a497200e046d39ccc7112cd0"},
	} {
		if got := digest.Hex(digest.Sum(x.parts...)); got != x.want {
			t.Errorf("Sum(%.80q): %s, want %s", x.parts, got, x.want)
		}
	}
}

// TestSumOfAnyLength: P2.1: all lengths through several blocks, of bytes of every worth, so that each place of the tail comes.
func TestSumOfAnyLength(t *testing.T) {
	r := draws()
	for n := range 400 {
		for _, b := range [][]byte{make([]byte, n), bytes.Repeat([]byte{0xff}, n), bytes.Repeat([]byte{0x80}, n), someBytes(r, n)} {
			if got := digest.Sum(b); got != sha256.Sum256(b) {
				t.Errorf("Sum of %d bytes % x: %x", n, b, got)
			}
		}
	}
	for range 20 {
		b := someBytes(r, r.Intn(100000))
		if got := digest.Sum(b); got != sha256.Sum256(b) {
			t.Errorf("Sum of %d bytes: %x", len(b), got)
		}
	}
}

// TestSumOfMuch: the tail's number of bits takes more than four bytes from 2^29 bytes on.
func TestSumOfMuch(t *testing.T) {
	piece := someBytes(draws(), 1<<20)
	parts := [][]byte{}
	want := sha256.New()
	for range 512 {
		parts = append(parts, piece)
		want.Write(piece)
	}
	if got := digest.Sum(parts...); !bytes.Equal(got[:], want.Sum(nil)) {
		t.Errorf("Sum of 2^29 bytes: %x, want %x", got, want.Sum(nil))
	}
}

// TestSumOfParts: P2.4, of Sum: every cut in two of lengths about the ends of blocks, and cuts anywhere.
func TestSumOfParts(t *testing.T) {
	r := draws()
	for _, n := range []int{1, 2, 54, 55, 56, 57, 63, 64, 65, 119, 120, 127, 128, 129, 192} {
		b := someBytes(r, n)
		want := sha256.Sum256(b)
		for at := range n + 1 {
			if got := digest.Sum(b[:at], b[at:]); got != want {
				t.Errorf("Sum of %d bytes, cut at %d: %x, want %x", n, at, got, want)
			}
		}
	}
	for range 200 {
		b := someBytes(r, r.Intn(1000))
		if got := digest.Sum(cutAnywhere(r, b)...); got != sha256.Sum256(b) {
			t.Errorf("Sum of pieces of % x: %x", b, got)
		}
	}
	single := [][]byte{}
	b := someBytes(r, 300)
	for i := range b {
		single = append(single, b[i:i+1])
	}
	if got := digest.Sum(single...); got != sha256.Sum256(b) {
		t.Errorf("Sum of 300 single bytes: %x", got)
	}
}

// TestSumHangsOnOrder: parts go one behind the other, the first one first.
func TestSumHangsOnOrder(t *testing.T) {
	a, b := []byte("a"), []byte("b")
	if digest.Sum(a, b) == digest.Sum(b, a) {
		t.Error("Sum(a, b) is Sum(b, a)")
	}
	if digest.Sum(b, a) != sha256.Sum256([]byte("ba")) {
		t.Error("Sum(b, a) isn't that of ba")
	}
}

// TestSumLeavesParts: R2: neither the parts nor the list of them nor the room behind them.
func TestSumLeavesParts(t *testing.T) {
	room := someBytes(draws(), 200)
	was := bytes.Clone(room)
	list := [][]byte{room[:10:20], room[20:100], room[100:163], {1}}
	digest.Sum(list[:3]...)
	if !bytes.Equal(room, was) {
		t.Error("Sum changed a part, or the room behind it")
	}
	if len(list[0]) != 10 || len(list[1]) != 80 || len(list[2]) != 63 || len(list[3]) != 1 {
		t.Error("Sum changed the list of parts")
	}
}
