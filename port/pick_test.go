package port_test

import (
	"math"
	"testing"

	"slipway/api"
	"slipway/dice"
	"slipway/port"
)

// TestPick: P13.3: the draw's own port, where that isn't open; nothing waits there.
func TestPick(t *testing.T) {
	for draw, want := range map[uint32]int{0: 49152, 1: 49153, 16382: 65534, 16383: 65535, 16384: 49152, 16385: 49153, 65535: 65535, 65536: 49152, math.MaxUint32: 65535, math.MaxUint32 - 16383: 49152} {
		p := newPair(t, 1, 1, draw, 99)
		p.picks(want)
		p.has(is(want, 0, 0))
		p.takesNone(want)
		p.puts(want, "a")
		p.takes(want, "a")
		if left := p.dice.Left(); left != 1 || p.dice.Next() != 99 {
			t.Errorf("the draw %d: %d left", draw, left)
		}
	}
}

// TestPickEveryPort: P13.3: each port from 49152 on, by the one draw that tells it, alone and where it is open.
func TestPickEveryPort(t *testing.T) {
	for draw := range 16384 {
		table := port.New(2, 1)
		d := dice.New([]uint32{uint32(draw), uint32(draw)})
		a, errA := table.Pick(d)
		b, errB := table.Pick(d)
		if a != 49152+draw || b != 49152+(draw+1)%16384 || errA != 0 || errB != 0 || d.Left() != 0 {
			t.Errorf("Pick of the draw %d: %d, %d, then %d, %d", draw, a, errA, b, errB)
		}
	}
}

// TestPickFull: P13.3: with most ports open no draw is used, and nothing changes; behind a Close the same draw is used.
func TestPickFull(t *testing.T) {
	for _, most := range []int{1, 2, 16} {
		p := newPair(t, most, 1, 5, 6)
		for i := range most {
			p.opened(10 + i)
			p.puts(10+i, "a")
		}
		for range 3 {
			if n, err := p.pick(); n != 0 || err != 3 || p.dice.Left() != 2 {
				t.Errorf("Pick with %d open: %d, %d, %d draws left", most, n, err, p.dice.Left())
			}
		}
		p.close(10)
		p.picks(49157)
		if n, err := p.pick(); n != 0 || err != 3 || p.dice.Left() != 1 {
			t.Errorf("Pick with %d open: %d, %d, %d draws left", most, n, err, p.dice.Left())
		}
		for i := 1; i < most; i++ {
			p.takes(10+i, "a")
		}
	}
}

// TestPickOpen: P13.3: on from an open port, over several in a row too, up to the first one that isn't; one draw is used for it.
func TestPickOpen(t *testing.T) {
	for many := range 16 {
		p := newPair(t, 16, 1, 100, 99)
		for i := range many {
			p.opened(49252 + many - 1 - i)
		}
		p.picks(49252 + many)
		if left := p.dice.Left(); left != 1 {
			t.Errorf("%d open: %d draws left", many, left)
		}
	}
}

// TestPickBetween: P13.3: the first one that isn't open, be others open behind it or before it; those below 49152 don't matter.
func TestPickBetween(t *testing.T) {
	p := newPair(t, 16, 1, 8, 8, 8, 8, 11)
	p.opened(8, 9, 49151, 49159, 49160, 49161, 49163)
	p.picks(49162, 49164, 49165, 49166, 49167)
	p.close(49161)
	p.plain.draws = append(p.plain.draws, 7)
	p.dice.Add(7)
	p.picks(49161)
}

// TestPickRound: P13.3: behind 65535 it goes on from 49152, not from 0 or 1, over open ones on both sides.
func TestPickRound(t *testing.T) {
	for before := range 8 {
		for after := range 8 {
			for _, start := range []int{0, before} {
				p := newPair(t, 16, 1, uint32(16383-start))
				for i := range before + 1 {
					p.opened(65535 - i)
				}
				for i := range after {
					p.opened(49152 + i)
				}
				p.picks(49152 + after)
			}
		}
	}
}

// TestPickRoundOfOne: P13.3: all ports are picked by one and the same draw, 65535's, in the order of the numbers.
func TestPickRoundOfOne(t *testing.T) {
	list := make([]uint32, 16)
	for i := range list {
		list[i] = 16383
	}
	p := newPair(t, 16, 1, list...)
	p.picks(65535)
	for i := range 15 {
		p.picks(49152 + i)
	}
	if n, err := p.pick(); n != 0 || err != 3 {
		t.Errorf("Pick: %d, %d", n, err)
	}
}

// TestPickBehindTheLastDraw: P13.3 with P6.1: a draw that isn't there is 0.
func TestPickBehindTheLastDraw(t *testing.T) {
	p := newPair(t, 16, 1, 2)
	p.picks(49154, 49152, 49153, 49155, 49156)
	p.close(49153)
	p.picks(49153)
	p = newPair(t, 1, 1)
	p.picks(49152)
	if p.dice.Left() != 0 {
		t.Errorf("%d draws left", p.dice.Left())
	}
}

// TestPickWorksOnTheDice: P13.3 with R2: the dice that was handed in is the one whose draw is used, each time another one.
func TestPickWorksOnTheDice(t *testing.T) {
	table := port.New(4, 1)
	a, b := dice.New([]uint32{1, 2}), dice.New([]uint32{30, 40})
	for i, d := range []*dice.Dice{a, b, b, a} {
		want := []int{49153, 49182, 49192, 49154}[i]
		if n, err := table.Pick(d); n != want || err != api.OK {
			t.Errorf("Pick: %d, %d, want %d", n, err, want)
		}
	}
	if a.Left() != 0 || b.Left() != 0 {
		t.Errorf("%d, %d draws left", a.Left(), b.Left())
	}
}

// TestPickLeavesOthers: P13.3: what waits at ports that it goes over stays there.
func TestPickLeavesOthers(t *testing.T) {
	p := newPair(t, 4, 1, 0)
	p.opened(49152, 49153)
	p.puts(49152, "a")
	p.puts(49153, "b")
	p.refuses(49153, "c", 3)
	p.picks(49154)
	p.has(is(49152, 1, 0), is(49153, 1, 1), is(49154, 0, 0))
	p.takes(49153, "b")
	p.takes(49152, "a")
}
