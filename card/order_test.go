package card_test

import (
	"bytes"
	"testing"

	"slipway/api"
	"slipway/card"
	"slipway/frame"
)

// TestDriverGetsAllInOrder: P4.7: a driver that goes round gets what was not refused, each once, in order, however many come between its looks.
func TestDriverGetsAllInOrder(t *testing.T) {
	r := draws()
	for _, n := range []int{1, 2, 3, 63, 64} {
		c := card.New(n, 1)
		var came, got [][]byte
		at := 0
		for range 300 {
			for range r.IntN(2*n + 1) {
				if b := someBytes(r, 1+r.IntN(100)); c.Arrive(b) {
					came = append(came, b)
				}
			}
			for range r.IntN(2*n + 1) {
				d, _ := c.Rx(at)
				if d.Card {
					break
				}
				got = append(got, d.Data)
				c.Give(at)
				at = (at + 1) % n
			}
		}
		if checkFirst(t, came, got) < 3*n {
			t.Errorf("a ring of %d: %d frames, which is not thrice round", n, len(got))
		}
		if k := c.Counts(); k.In != len(came) || k.In-len(got) > n {
			t.Errorf("a ring of %d: In %d, %d came, %d were got", n, k.In, len(came), len(got))
		}
	}
}

// TestAllDepartInOrder: P4.7: what is laid in order, round and round, departs so, each once.
func TestAllDepartInOrder(t *testing.T) {
	r := draws()
	for _, n := range []int{1, 2, 3, 63, 64} {
		c := card.New(1, n)
		var laid, left [][]byte
		at := 0
		for range 300 {
			for range r.IntN(2*n + 1) {
				b := someBytes(r, 60+r.IntN(100))
				if c.Lay(at, b) != api.OK {
					break
				}
				laid = append(laid, b)
				at = (at + 1) % n
			}
			for range r.IntN(2*n + 1) {
				if b, ok := c.Depart(); ok {
					left = append(left, b)
				}
			}
		}
		if checkFirst(t, laid, left) < 3*n {
			t.Errorf("a ring of %d: %d frames, which is not thrice round", n, len(left))
		}
		if k := c.Counts(); k.Out != len(left) || len(laid)-k.Out > n {
			t.Errorf("a ring of %d: Out %d, %d were laid, %d left", n, k.Out, len(laid), len(left))
		}
	}
}

// checkFirst: got is a beginning of all; how long it is.
func checkFirst(t *testing.T, all, got [][]byte) int {
	t.Helper()
	if len(got) > len(all) {
		t.Fatalf("%d frames of %d", len(got), len(all))
	}
	for i, b := range got {
		if !bytes.Equal(b, all[i]) {
			t.Fatalf("frame %d: % x, want % x", i, b, all[i])
		}
	}
	return len(got)
}

// TestAnyCalls: P4.1 to P4.6: calls of all kinds, in any order, with numbers and lengths about their edges.
func TestAnyCalls(t *testing.T) {
	r := draws()
	for _, n := range [][2]int{{1, 1}, {1, 2}, {2, 1}, {3, 2}, {2, 5}, {64, 63}, {63, 64}} {
		p := newPair(t, n[0], n[1])
		for range 1500 {
			b := someBytes(r, lengths()[r.IntN(len(lengths()))])
			switch r.IntN(4) {
			case 0:
				p.arrive(b)
			case 1:
				p.depart()
			case 2:
				p.give(r.IntN(n[0]+2) - 1)
			case 3:
				p.lay(r.IntN(n[1]+2)-1, b)
			}
			p.look("a call")
		}
		if t.Failed() {
			t.Fatalf("at rings of %v", n)
		}
	}
}

// TestCardsBesideEachOther: what one card is told is not seen at another, nor at one ring what the other is told.
func TestCardsBesideEachOther(t *testing.T) {
	r := draws()
	pairs := []*pair{newPair(t, 2, 3), newPair(t, 2, 3), newPair(t, 64, 64)}
	for range 600 {
		p := pairs[r.IntN(len(pairs))]
		b := someBytes(r, 60+r.IntN(40))
		switch r.IntN(4) {
		case 0:
			p.arrive(b)
		case 1:
			p.depart()
		case 2:
			p.give(r.IntN(len(p.plain.rx)))
		case 3:
			p.lay(r.IntN(len(p.plain.tx)), b)
		}
		for _, q := range pairs {
			q.look("a call at one of three cards")
		}
	}
}

// TestTakesWhatSealMakes: P3.4: what Seal makes, of whatever length, a card takes, both ways.
func TestTakesWhatSealMakes(t *testing.T) {
	p := newPair(t, 1, 1)
	for n := range 1501 {
		b, _ := frame.Seal(api.Frame{Dst: api.Mac{2}, Src: api.Mac{4}, Kind: 2048, Data: filled(n, byte(n))})
		if p.lay(0, b) != api.OK {
			t.Errorf("Lay of a frame of %d bytes is refused", n)
		}
		out, _ := p.depart()
		if !p.arrive(out) {
			t.Errorf("Arrive of a frame of %d bytes: false", n)
		}
		p.look("a frame both ways")
		p.give(0)
	}
}
