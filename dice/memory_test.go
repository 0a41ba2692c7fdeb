package dice_test

import (
	"slices"
	"testing"

	"slipway/dice"
)

// overwrite fills draws and the spare room behind them.
func overwrite(l []uint32) {
	l = l[:cap(l)]
	for i := range l {
		l[i] = 0xeeeeeeee
	}
}

// useAll makes calls of all kinds, with draws added between them, more than there are.
func useAll(d *dice.Dice) {
	for d.Left() > 0 {
		d.Next()
		d.Span(1, 9)
		d.Port()
		d.Backoff(40, 640, 3)
	}
	d.Add(1, 2, 3)
	d.Next()
	d.Add(4, 5, 6, 7, 8, 9)
}

// TestLeavesDraws: P6.6 with R2: neither draws that are handed in nor the room behind them are changed, then or later.
func TestLeavesDraws(t *testing.T) {
	for _, n := range []int{0, 1, 2, 7, 100} {
		room := someDraws(chance(), n+200)
		was := slices.Clone(room)
		d := dice.New(room[:n])
		d.Add(1, 2, 3)
		d.Add(someDraws(chance(), 50)...)
		useAll(d)
		none, some := dice.New(nil), dice.New([]uint32{1, 2})
		for _, d := range []*dice.Dice{none, some} {
			d.Add(room[:n]...)
			d.Add(4, 5)
			d.Add(room[n : n+3]...)
			useAll(d)
		}
		if !slices.Equal(room, was) {
			t.Errorf("%d draws were changed, or the room behind them", n)
		}
	}
}

// TestKeepsNoDraws: P6.6 with R2: what a Dice tells doesn't hang on what is done to the draws behind the call.
func TestKeepsNoDraws(t *testing.T) {
	for _, n := range []int{0, 1, 2, 7, 100} {
		for _, first := range []int{0, 1, 5} {
			a, b := someDraws(chance(), first+9), someDraws(chance(), n+20)
			p := newPair(t)
			p.dice, p.left = dice.New(a[:first]), slices.Clone(a[:first])
			overwrite(a)
			p.add(b[:n]...)
			overwrite(b)
			p.next()
			p.add(b[:1]...)
			b[0] = 3
			p.add(77)
			overwrite(b)
			p.empty()
		}
	}
}

// TestLengthIsNotCapacity: P6.1: what lies behind the draws is none of the Dice's.
func TestLengthIsNotCapacity(t *testing.T) {
	room := someDraws(chance(), 100)
	for _, n := range []int{0, 1, 50} {
		d := dice.New(room[:n])
		d.Add(room[50 : 50+n]...)
		if d.Left() != 2*n {
			t.Errorf("Left: %d, want %d", d.Left(), 2*n)
		}
		for i := range 2 * n {
			if got, want := d.Next(), room[i%n+50*(i/n)]; got != want {
				t.Errorf("Next %d: %d, want %d", i, got, want)
			}
		}
		if got := d.Next(); got != 0 {
			t.Errorf("Next behind %d draws: %d", 2*n, got)
		}
	}
}

// TestTwoDicesOfOneList: P6.6: over the same draws, each uses its own, and has what was added to it alone.
func TestTwoDicesOfOneList(t *testing.T) {
	room := make([]uint32, 3, 30)
	copy(room, []uint32{1, 2, 3})
	p, q := newPair(t), newPair(t)
	p.dice, p.left = dice.New(room), []uint32{1, 2, 3}
	q.dice, q.left = dice.New(room), []uint32{1, 2, 3}
	for i := range 20 {
		p.add(uint32(100 + i))
		q.add(uint32(200 + i))
		if i%2 == 0 {
			p.next()
		}
		p.look("calls at another one")
		q.look("calls at another one")
	}
	p.empty()
	q.look("another one that has none left")
	q.empty()
}

// TestDicesBesideEachOther: P6.6, R6: none is seen in what another one tells.
func TestDicesBesideEachOther(t *testing.T) {
	r := chance()
	all := []*pair{newPair(t), newPair(t), newPair(t, 1), newPair(t, someDraws(r, 40)...), newPair(t, edgeDraws...)}
	for range 20000 {
		all[r.IntN(len(all))].step(r)
	}
	for _, p := range all {
		p.look("calls at others")
		p.empty()
	}
}
