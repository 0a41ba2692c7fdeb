package card_test

import (
	"math"
	"testing"

	"slipway/api"
	"slipway/card"
)

// TestErrorNumbers: the section Errors.
func TestErrorNumbers(t *testing.T) {
	c := card.New(1, 1)
	c.Lay(0, filled(60, 1))
	_, e := c.Rx(1)
	got := [4]api.Errno{c.Lay(0, filled(1515, 1)), c.Lay(0, nil), e, c.Give(0)}
	if got != [4]api.Errno{2, 5, 40, 41} {
		t.Errorf("ErrLong, ErrShort, ErrRing, ErrOwner: %v", got)
	}
}

// TestExample: the chapter's table.
func TestExample(t *testing.T) {
	f, g := filled(60, 1), filled(61, 2)
	if card.New(0, 1) != nil || card.New(1, 65) != nil {
		t.Error("New(0, 1), New(1, 65): not nil")
	}
	p := newPair(t, 2, 1)
	if p.arrive(nil) || p.arrive(filled(1515, 1)) || !p.arrive([]byte{9}) {
		t.Error("Arrive(none), Arrive(1515 bytes), Arrive(one byte)")
	}
	p.look("one byte 9")
	if !p.arrive(g) || p.arrive(f) {
		t.Error("Arrive(G), Arrive(F)")
	}
	p.look("G and F")
	if p.give(1) != api.OK || p.give(1) != api.ErrOwner || p.arrive(f) {
		t.Error("Give(1), Give(1), Arrive(F)")
	}
	p.look("Give(1)")
	if p.give(0) != api.OK || !p.arrive(f) {
		t.Error("Give(0), Arrive(F)")
	}
	p.look("Give(0)")
	p.depart()
	if p.lay(0, f[:59]) != api.ErrShort || p.lay(0, filled(1515, 1)) != api.ErrLong || p.lay(1, f) != api.ErrRing || p.lay(0, f) != api.OK || p.lay(0, g) != api.ErrOwner {
		t.Error("Lay")
	}
	p.look("Lay")
	p.depart()
	p.depart()
	p.look("Depart")
}

// TestNewTakes: P4.1: all rings from 1 to 64 descriptors, as New's card shows them.
func TestNewTakes(t *testing.T) {
	for rx := 1; rx <= 64; rx++ {
		for _, tx := range []int{1, 2, 63, 64, 65 - rx} {
			newPair(t, rx, tx)
			newPair(t, tx, rx)
		}
	}
}

// TestNewRefuses: P4.1: a ring without a descriptor, or with too many, whichever of the two it is.
func TestNewRefuses(t *testing.T) {
	wrong := []int{math.MinInt, math.MinInt32, -64, -1, 0, 65, 66, 128, 256 + 1, 1 << 32, 1<<32 + 1, math.MaxInt}
	for _, w := range wrong {
		for _, n := range append([]int{1, 2, 64}, wrong...) {
			if card.New(w, n) != nil || card.New(n, w) != nil {
				t.Errorf("New of %d and %d: not nil", w, n)
			}
		}
	}
}

// TestNumbersOfDescriptors: P4.4, P4.5: each ring has its own length, and what is no number of it is told so, by an error and nothing else.
func TestNumbersOfDescriptors(t *testing.T) {
	for _, n := range [][2]int{{1, 1}, {1, 64}, {64, 1}, {2, 3}, {63, 64}} {
		p := newPair(t, n[0], n[1])
		for _, i := range []int{math.MinInt, -65, -64, -2, -1, n[0], n[0] + 1, 65, 256, 1 << 32, math.MaxInt} {
			if i < 0 || i >= n[0] {
				d, e := p.card.Rx(i)
				checkNoDesc(t, "Rx", i, d, e)
				p.give(i)
			}
		}
		for _, i := range []int{math.MinInt, -65, -64, -2, -1, n[1], n[1] + 1, 65, 256, 1 << 32, math.MaxInt} {
			if i < 0 || i >= n[1] {
				d, e := p.card.Tx(i)
				checkNoDesc(t, "Tx", i, d, e)
				p.lay(i, filled(60, 1))
			}
		}
		p.look("numbers that no descriptor has")
	}
}

func checkNoDesc(t *testing.T, call string, i int, d api.Desc, e api.Errno) {
	t.Helper()
	if e != 40 || d.Card || len(d.Data) != 0 {
		t.Errorf("%s(%d): %+v, %d, want none, ErrRing", call, i, d, e)
	}
}
