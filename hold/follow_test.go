package hold_test

import (
	"fmt"
	"math/rand/v2"
	"testing"

	"slipway/digest"
	"slipway/hold"
)

// TestAllRows: P19.1 to P19.6: every row of four calls, for small holds and several wanted images, against the chapter told plainly.
func TestAllRows(t *testing.T) {
	calls := []func(p *pair){
		func(p *pair) { p.add("") },
		func(p *pair) { p.add("a") },
		func(p *pair) { p.add("bc") },
		func(p *pair) { p.add("abc") },
		func(p *pair) { p.reset() },
		func(p *pair) { p.seal() },
	}
	for most := range 5 {
		for _, wanted := range []string{"", "a", "bc", "abc", "aa", "abca"} {
			for row := range 6 * 6 * 6 * 6 {
				p := newPair(t, most, wanted)
				for range 4 {
					calls[row%6](p)
					row /= 6
				}
			}
		}
	}
}

// some calls one of the calls that change something; pieces go on with abcabc.. mostly, so that the wanted image comes up.
func some(p *pair, r *rand.Rand) {
	p.t.Helper()
	switch r.IntN(8) {
	case 0:
		p.reset()
	case 1, 2:
		p.seal()
	default:
		at := (p.hold.Len() + r.IntN(5)/4) % 3
		p.add("abcabcabc"[at : at+r.IntN(4)])
	}
}

// TestRandomRows: P19.1 to P19.6: long rows of calls; the wanted image comes by chance.
func TestRandomRows(t *testing.T) {
	r := numbers()
	sealed := 0
	for range 500 {
		wanted := "abcabcabcabc"[:r.IntN(12)]
		p := newPair(t, r.IntN(len(wanted)+8), wanted)
		for range 40 {
			some(p, r)
		}
		if p.plain.sealed {
			sealed++
		}
	}
	if sealed < 100 || sealed > 400 {
		t.Errorf("%d of 500 rows were sealed: they say too little", sealed)
	}
}

// TestRecordStays: P19.5, told by the calls alone: a record has the wanted digest, at most most bytes, and is the same from then on.
func TestRecordStays(t *testing.T) {
	r := numbers()
	for range 500 {
		most, want := r.IntN(12), digest.Sum([]byte("abcabc"[:r.IntN(7)]))
		h := hold.New(most, want)
		record, there := "", false
		for step := range 60 {
			switch r.IntN(4) {
			case 0:
				h.Reset()
			case 1:
				h.Seal()
			default:
				h.Add([]byte("abc"[:1+r.IntN(3)]))
			}
			b, ok := h.Record()
			if there && (!ok || string(b) != record) {
				t.Fatalf("step %d: the record was %q, is %q, %v", step, record, b, ok)
			}
			if ok && (digest.Sum(b) != want || len(b) > most) {
				t.Fatalf("step %d: a record of %q in a hold of %d", step, b, most)
			}
			record, there = string(b), ok
		}
	}
}

// TestImageIsWhatWasAdded: P19.6, told by the calls alone: pieces that weren't refused stand one behind the other.
func TestImageIsWhatWasAdded(t *testing.T) {
	r := numbers()
	for range 200 {
		h := hold.New(r.IntN(3000), digestOf("another"))
		image := ""
		for step := range 50 {
			piece := someBytes(r, r.IntN(600))
			switch {
			case r.IntN(12) == 0:
				h.Reset()
				image = ""
			case h.Add([]byte(piece)) == 0:
				image += piece
			}
			if r.IntN(4) == 0 {
				h.Seal()
			}
			if got := string(h.Bytes()); got != image || h.Len() != len(image) || h.Sum() != digestOf(image) {
				t.Fatalf("step %d: %d bytes, Len %d, want %d", step, len(got), h.Len(), len(image))
			}
		}
	}
}

// TestTwoInTurns: R6: two holds that are called in turns, with the same pieces, don't touch one another.
func TestTwoInTurns(t *testing.T) {
	r := numbers()
	for range 200 {
		p, q := newPair(t, r.IntN(20), "abcabc"), newPair(t, r.IntN(20), "abc")
		for range 30 {
			some(p, r)
			q.same("a call of the other one")
			some(q, r)
			p.same("a call of the other one")
		}
	}
	p, q := newPair(t, 3, "abc"), newPair(t, 3, "abc")
	p.takes("abc")
	q.takes("ab")
	p.seals(true, 0)
	q.unsealed()
	q.seals(false, 0)
	q.takes("c")
	q.resets(0)
	p.recorded("abc")
	q.takes("abc")
	q.seals(true, 0)
	q.recorded("abc")
}

// told is all that a hold tells, as a text.
func told(h *hold.Hold) string {
	record, ok := h.Record()
	return fmt.Sprintf("%d %d %x %x %x %v", h.Len(), h.Most(), h.Sum(), h.Bytes(), record, ok)
}

// TestSameCalls: R6: the same calls are answered the same; asking changes nothing.
func TestSameCalls(t *testing.T) {
	r := numbers()
	for range 200 {
		most := r.IntN(20)
		a, b := hold.New(most, digestOf("abcabc")), hold.New(most, digestOf("abcabc"))
		for range 30 {
			piece := []byte("abcabc"[:r.IntN(7)])
			switch r.IntN(4) {
			case 0:
				if x, y := a.Reset(), b.Reset(); x != y {
					t.Fatalf("Reset: %d, %d", x, y)
				}
			case 1:
				x, e := a.Seal()
				y, f := b.Seal()
				if x != y || e != f {
					t.Fatalf("Seal: %v, %d; %v, %d", x, e, y, f)
				}
			default:
				if x, y := a.Add(piece), b.Add(piece); x != y {
					t.Fatalf("Add: %d, %d", x, y)
				}
			}
			told(a) // b is asked only once
			if told(a) != told(b) {
				t.Fatalf("%s, %s", told(a), told(b))
			}
		}
	}
}
