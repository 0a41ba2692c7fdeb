package hold_test

import (
	"bytes"
	"testing"

	"slipway/hold"
)

// overwrite fills bytes and the spare room behind them.
func overwrite(b []byte) {
	b = b[:cap(b)]
	for i := range b {
		b[i] = 0xee
	}
}

// TestLeavesPiece: R2: neither a piece nor the room behind it is changed, then or by what comes later.
func TestLeavesPiece(t *testing.T) {
	r := numbers()
	for _, n := range []int{0, 1, 28, 100} {
		room := []byte(someBytes(r, n+200))
		was := bytes.Clone(room)
		h := hold.New(n+50, digestOf("more"))
		h.Add(room[:n])
		h.Add([]byte("some more"))
		h.Add(room[:n+100]) // refused
		overwrite(h.Bytes())
		h.Reset()
		h.Add([]byte("mo"))
		h.Add([]byte("re"))
		h.Seal()
		record, _ := h.Record()
		overwrite(record)
		if !bytes.Equal(room, was) {
			t.Errorf("a piece of %d bytes, or the room behind it, was changed", n)
		}
	}
}

// TestKeepsNoPiece: R2: the image doesn't hang on what is done behind the call to a piece, be it the first one, a later one, or one that is added twice.
func TestKeepsNoPiece(t *testing.T) {
	r := numbers()
	for _, n := range []int{1, 28, 100} {
		room := []byte(someBytes(r, n+200))
		first, second := string(room[:n]), string(room[n:n+7])
		p := newPair(t, 1000, first+second+second)
		for _, piece := range [][]byte{room[:n], room[n : n+7], room[n : n+7]} {
			p.plain.add(string(piece))
			p.hold.Add(piece)
		}
		p.same("Add")
		overwrite(room)
		p.same("a change of what was handed in")
		p.seals(true, 0)
		p.recorded(first + second + second)
	}
}

// TestTellsNewMemory: R2: whatever is done to what was told, and to its spare room, the hold and what it told otherwise stay as they were.
func TestTellsNewMemory(t *testing.T) {
	r := numbers()
	for range 100 {
		text := someBytes(r, 1+r.IntN(90))
		cut := r.IntN(len(text))
		p := newPair(t, 200, text)
		p.takes(text[:cut])
		a, b := p.hold.Bytes(), p.hold.Bytes()
		overwrite(a)
		if string(b) != text[:cut] {
			t.Fatal("two answers of Bytes share memory")
		}
		p.same("a change of Bytes")
		p.takes(text[cut:])
		overwrite(b)
		p.seals(true, 0)
		c, _ := p.hold.Record()
		d, _ := p.hold.Record()
		e := p.hold.Bytes()
		overwrite(c)
		if string(d) != text || string(e) != text {
			t.Fatal("answers of Record and Bytes share memory")
		}
		overwrite(d)
		overwrite(e)
		p.recorded(text)
	}
}

// TestToldStays: R2: what was told ahead of Add, Reset and Seal doesn't change by them.
func TestToldStays(t *testing.T) {
	p := newPair(t, 100, "again")
	p.takes("some bytes")
	told := p.hold.Bytes()
	p.takes(" and more")
	p.resets(0)
	p.takes("ag", "ain")
	again := p.hold.Bytes()
	p.seals(true, 0)
	p.refuses("x", 190)
	if string(told) != "some bytes" || string(again) != "again" {
		t.Errorf("told: %q, %q", told, again)
	}
}

// TestAddOfItsOwn: R2: what a hold told may be added to it.
func TestAddOfItsOwn(t *testing.T) {
	p := newPair(t, 64, "abababababababab")
	p.takes("ab")
	for range 3 {
		own := p.hold.Bytes()
		if err := p.hold.Add(own); err != 0 {
			t.Fatalf("Add: %d", err)
		}
		p.plain.add(string(own))
		overwrite(own)
		p.same("Add of its own")
	}
	p.seals(true, 0)
}
