package dice_test

import (
	"slices"
	"testing"

	"slipway/dice"
)

// TestExampleOfDraws: the chapter's table, its first two rows.
func TestExampleOfDraws(t *testing.T) {
	d := dice.New([]uint32{7, 8})
	got := []int{d.Left(), int(d.Next()), d.Left(), int(d.Next()), int(d.Next()), d.Left()}
	if want := []int{2, 7, 1, 8, 0, 0}; !slices.Equal(got, want) {
		t.Errorf("New(7, 8): %v, want %v", got, want)
	}
	d = dice.New([]uint32{5})
	d.Add(6, 7)
	got = []int{d.Left(), d.Span(10, 12), d.Span(10, 10), d.Span(3, 1), d.Left(), d.Span(-1, 0), d.Span(0, 9), d.Left()}
	if want := []int{3, 12, 10, 3, 2, -1, 7, 0}; !slices.Equal(got, want) {
		t.Errorf("New(5), Add(6, 7): %v, want %v", got, want)
	}
}

// TestNone: P6.1, P6.5 with R3: a Dice that was handed none, nil or empty: 0, for as long as none is added.
func TestNone(t *testing.T) {
	for _, l := range [][]uint32{nil, {}, make([]uint32, 0, 9), someDraws(chance(), 9)[:0]} {
		p := newPair(t, l...)
		d := dice.New(l)
		if d == nil || d.Left() != 0 || d.Next() != 0 || d.Left() != 0 {
			t.Error("New of no draw has one")
		}
		d.Add(l...)
		d.Add()
		if d.Left() != 0 || d.Next() != 0 {
			t.Error("Add of no draw has added one")
		}
		p.empty()
		p.add(l...)
		p.empty()
		p.add(3)
		p.empty()
	}
}

// TestNoneLeft: P6.1 to P6.5: behind the last draw all is told by the draw 0, and nothing is used of what is added then.
func TestNoneLeft(t *testing.T) {
	p := newPair(t, 9)
	p.next()
	for range 3 {
		if p.next() != 0 || p.span(5, 9) != 5 || p.port() != 49152 || p.backoff(40, 640, 1) != 30 || p.span(5, 5) != 5 {
			t.Error("an answer by a draw where none is left")
		}
	}
	p.add(11, 12)
	if p.next() != 11 || p.span(5, 9) != 7 {
		t.Error("draws that were added behind those that were missing")
	}
}

// TestEachOnceInOrder: P6.1: however many there are, the draw 0 and equal ones among them.
func TestEachOnceInOrder(t *testing.T) {
	r := chance()
	for _, n := range []int{1, 2, 3, 4, 5, 7, 8, 9, 31, 32, 33, 1000, 100000} {
		p := newPair(t, someDraws(r, n)...)
		p.empty()
	}
	p := newPair(t, 0, 0, 5, 5, 0, 4294967295, 4294967295, 0)
	p.empty()
	p = newPair(t, edgeDraws...)
	p.add(edgeDraws...)
	p.empty()
}

// TestAdd: P6.1: none, one and many, ahead of Nexts, between them and behind them.
func TestAdd(t *testing.T) {
	r := chance()
	for first := range 5 {
		for used := range 7 {
			for _, more := range []int{0, 1, 2, 3, 50, 5000} {
				p := newPair(t, someDraws(r, first)...)
				for range used {
					p.next()
				}
				p.add(someDraws(r, more)...)
				p.add()
				for range used {
					p.next()
				}
				p.add(someDraws(r, more)...)
				p.add(someDraws(r, 1)...)
				p.empty()
			}
		}
	}
}

// TestManyAddsBetweenNexts: P6.1, R1: a long row of draws, to which one is added for each that is used.
func TestManyAddsBetweenNexts(t *testing.T) {
	const many = 100000
	d := dice.New(nil)
	for i := range many {
		d.Add(uint32(i))
	}
	for i := range 5 * many {
		if got := d.Next(); got != uint32(i) {
			t.Fatalf("Next %d: %d", i, got)
		}
		d.Add(uint32(many + i))
		if d.Left() != many {
			t.Fatalf("Left behind %d: %d", i, d.Left())
		}
	}
}

// TestAddedIsAsFromTheBeginning: P6.5: one that had all its draws ahead, one that got them piece by piece, each piece ahead of its need.
func TestAddedIsAsFromTheBeginning(t *testing.T) {
	r := chance()
	for range 200 {
		l := append(someDraws(r, r.IntN(40)), edgeDraws...)
		r.Shuffle(len(l), func(i, k int) { l[i], l[k] = l[k], l[i] })
		whole, cut := dice.New(l), r.IntN(len(l)+1)
		parts, rest := dice.New(l[:cut]), l[cut:]
		for range 2 * len(l) {
			for n := r.IntN(3); len(rest) > 0 && (n > 0 || parts.Left() == 0); n-- {
				k := r.IntN(len(rest) + 1)
				parts.Add(rest[:k]...)
				rest = rest[k:]
			}
			if whole.Left() != parts.Left()+len(rest) {
				t.Fatalf("Left: %d, and %d with %d that are still to come", whole.Left(), parts.Left(), len(rest))
			}
			k, lo, hi := r.IntN(4), edgeInts[r.IntN(len(edgeInts))], edgeInts[r.IntN(len(edgeInts))]
			if a, b := tell(whole, k, lo, hi), tell(parts, k, lo, hi); a != b {
				t.Fatalf("call %d with %d, %d: %d, and %d by draws that were added", k, lo, hi, a, b)
			}
		}
	}
}

// tell is what the call k tells.
func tell(d *dice.Dice, k, lo, hi int) int {
	switch k {
	case 0:
		return int(d.Next())
	case 1:
		return d.Port()
	case 2:
		return d.Span(lo, hi)
	}
	return d.Backoff(lo, hi, 3)
}

// TestHowManyDraws: P6.1 to P6.5: one draw a call, none by Left and by a Span that has no choice; the next one is used by the next call.
func TestHowManyDraws(t *testing.T) {
	d := dice.New([]uint32{100, 200, 300, 400, 500})
	d.Left()
	for _, x := range []struct {
		call string
		do   func() int
		left int
	}{
		{"Span(1, 1)", func() int { return d.Span(1, 1) }, 5},
		{"Span(1, 0)", func() int { return d.Span(1, 0) }, 5},
		{"Span(0, 1)", func() int { return d.Span(0, 1) }, 4},
		{"Port", d.Port, 3},
		{"Backoff(40, 640, 1)", func() int { return d.Backoff(40, 640, 1) }, 2},
		{"Backoff(1, 1, 1)", func() int { return d.Backoff(1, 1, 1) }, 1},
		{"Add", func() int { d.Add(); return 0 }, 1},
	} {
		x.do()
		if got := d.Left(); got != x.left {
			t.Errorf("behind %s: %d left, want %d", x.call, got, x.left)
		}
	}
	if got := d.Next(); got != 500 {
		t.Errorf("the last draw: %d", got)
	}
}

// TestAnyCalls: P6.1 to P6.5: calls of all kinds, in any order.
func TestAnyCalls(t *testing.T) {
	r := chance()
	for range 50 {
		p := newPair(t, someDraws(r, r.IntN(20))...)
		for range 400 {
			p.step(r)
		}
		p.empty()
	}
}
