package hold_test

import (
	"bytes"
	"strings"
	"testing"

	"slipway/hold"
)

// TestAddUpToMost: P19.2 and P19.6: an image may have just most bytes, however it comes, and not one more.
func TestAddUpToMost(t *testing.T) {
	r := numbers()
	for most := range 80 {
		for had := range most + 1 {
			p := newPair(t, most, "abc")
			first, rest := someBytes(r, had), someBytes(r, most-had)
			p.takes(first)
			p.refuses(rest+"x", 3)
			p.has(first)
			p.takes(rest)
			p.has(first + rest)
			p.refuses("x", 3)
			p.takes("")
			p.has(first + rest)
		}
	}
}

// TestAddTooMuchAtOnce: P19.2: nothing is there of what was refused, to an empty hold and to one that has bytes, however much too long it was; what fits is taken behind it.
func TestAddTooMuchAtOnce(t *testing.T) {
	for _, more := range []int{1, 2, 4, 5, 100, 70000} {
		p := newPair(t, 4, "abcd")
		p.refuses(strings.Repeat("x", 4+more), 3)
		p.has("")
		p.takes("ab")
		p.refuses(strings.Repeat("x", 2+more), 3)
		p.has("ab")
		p.takes("cd")
		p.refuses(strings.Repeat("x", more), 3)
		p.seals(true, 0)
		p.recorded("abcd")
	}
}

// TestAddNone: P19.2: no bytes are nothing, to an empty hold, to one with bytes and to a full one; nil is the same (R3).
func TestAddNone(t *testing.T) {
	p := newPair(t, 3, "abc")
	for _, piece := range []string{"", "a", "", "bc", ""} {
		p.takes(piece)
		if err := p.hold.Add(nil); err != 0 {
			t.Errorf("Add(nil): %d", err)
		}
		p.same("Add(nil)")
	}
	p.has("abc")
	p.seals(true, 0)
	if err := p.hold.Add(nil); err != 190 {
		t.Errorf("Add(nil) to a sealed one: %d, want 190", err)
	}
}

// TestAddBytesOfAnyKind: P19.2 and P19.6: each byte stands as it came, one by one and all at once.
func TestAddBytesOfAnyKind(t *testing.T) {
	all := ""
	for i := range 256 {
		all += string([]byte{byte(i)})
	}
	p := newPair(t, 512, all+all)
	for i := range 256 {
		p.takes(all[i : i+1])
	}
	p.takes(all)
	p.refuses("x", 3)
	p.seals(true, 0)
	p.recorded(all + all)
}

// TestAddToSealed: P19.2: ErrSealed comes ahead of ErrFull.
func TestAddToSealed(t *testing.T) {
	for _, most := range []int{3, 4, 100} {
		p := newPair(t, most, "abc")
		p.takes("abc")
		p.seals(true, 0)
		for _, n := range []int{0, 1, most - 3, most - 2, most, most + 1, 70000} {
			p.refuses(strings.Repeat("x", n), 190)
		}
		p.recorded("abc")
	}
}

// TestReset: P19.2: of an empty hold, of one with bytes, of a full one, behind a refused Add, twice; then all the room is there again.
func TestReset(t *testing.T) {
	p := newPair(t, 4, "abcd")
	for _, pieces := range [][]string{{}, {""}, {"a"}, {"ab", "c"}, {"wxyz"}, {"wxyz", "v"}, {"vwxyz"}, {"wx", "yzv"}} {
		for _, piece := range pieces {
			p.add(piece)
		}
		p.resets(0)
		p.has("")
		p.resets(0)
		p.has("")
		p.refuses("12345", 3)
		p.takes("1234")
		p.has("1234")
		p.resets(0)
		p.has("")
	}
	p.takes("abcd")
	p.seals(true, 0)
	p.resets(190)
	p.resets(190)
	p.recorded("abcd")
}

// TestGreatest: P19.2 and P19.3: an image of MaxImage bytes, by one Add and by many, and not one more.
func TestGreatest(t *testing.T) {
	r := numbers()
	image := []byte(strings.Repeat(someBytes(r, 1<<12), 1<<12))
	for _, piece := range []int{1428, 1 << 16, 16777216} {
		h := hold.New(16777216, digestOf(string(image)))
		if err := h.Add(append(bytes.Clone(image), 1)); err != 3 || h.Len() != 0 {
			t.Fatalf("Add of one more: %d, Len %d", err, h.Len())
		}
		for rest := image; len(rest) > 0; {
			n := min(piece, len(rest))
			if err := h.Add(rest[:n]); err != 0 {
				t.Fatalf("Add: %d, Len %d", err, h.Len())
			}
			rest = rest[n:]
		}
		if err := h.Add([]byte{1}); err != 3 || h.Len() != 16777216 {
			t.Fatalf("Add to a full one: %d, Len %d", err, h.Len())
		}
		if ok, err := h.Seal(); !ok || err != 0 {
			t.Fatalf("Seal: %v, %d", ok, err)
		}
		record, ok := h.Record()
		if !ok || !bytes.Equal(record, image) {
			t.Fatalf("Record: %d bytes, %v", len(record), ok)
		}
	}
}
