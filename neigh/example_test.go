package neigh_test

import (
	"math"
	"testing"

	"slipway/api"
	"slipway/neigh"
)

// TestExamples: the chapter's table, call by call.
func TestExamples(t *testing.T) {
	p := newPair(t, stationA, 2)
	q := func(n uint32) string { return question(stationA, ours, net+n) }
	k := func(s string) string { return packet(stationB, []byte(s)) }
	ask := func(n uint32, s string, now int) []string { return p.ask(ours, net+n, []byte(s), now) }
	p.saw(ask(1, "p", 0), q(1))
	p.saw(ask(1, "r", 3))
	if at, some := p.cache.Next(); at != 10 || !some {
		t.Errorf("Next: %d, %v", at, some)
	}
	p.saw(p.tick(9))
	p.saw(p.tick(10), q(1))
	p.has(isAsked(net+1, 20, 2))
	p.saw(p.on(told(stationB, net+1), ours, 12), k("r"))
	p.has(isKnown(net+1, stationB, 612))
	p.saw(ask(1, "p", 611), k("p"))
	p.saw(ask(1, "p", 612), q(1))
	p.saw(ask(2, "p", 612), q(2))
	p.saw(ask(3, "p", 612))
	p.saw(p.tick(622), q(1), q(2))
	p.saw(p.tick(632), q(1), q(2))
	p.saw(p.tick(642))
	p.has()
	p.saw(p.on(asks(stationB, net+1, ours), ours, 700), answer(stationA, ours, stationB, net+1))
	p.has(isKnown(net+1, stationB, 1300))
	p.saw(p.on(asks(stationB, net+1, net+9), ours, 700))
	p.saw(p.on(asks(stationB, 0, ours), ours, 700), answer(stationA, ours, stationB, 0))
	p.has(isKnown(net+1, stationB, 1300))
	p.clear()
	p.has()
	p.saw(p.on(asks(stationB, net+1, ours), 0, 701))
	p.has()
}

// TestNew: P11.1: how many entries there may be, and what a new one has.
func TestNew(t *testing.T) {
	for _, most := range []int{math.MinInt, -64, -1, 0, api.MaxNeigh + 1, 66, 1 << 40, math.MaxInt} {
		if neigh.New(stationA, most) != nil {
			t.Errorf("New(.., %d): not nil", most)
		}
	}
	for most := 1; most <= 64; most++ {
		p := newPair(t, stationA, most)
		p.has()
		if at, some := p.cache.Next(); at != 0 || some {
			t.Errorf("New(.., %d): Next: %d, %v", most, at, some)
		}
		p.saw(p.tick(0))
	}
}

// TestOwnStation: P11.1: any station may be the own one; questions and answers come from it.
func TestOwnStation(t *testing.T) {
	for _, own := range []api.Mac{{}, stationA, stationB, {1}, {0xff, 0xff, 0xff, 0xff, 0xff, 0xff}, {9, 8, 7, 6, 5, 4}} {
		p := newPair(t, own, 2)
		p.saw(p.ask(ours, net+1, []byte("p"), 0), question(own, ours, net+1))
		p.saw(p.tick(10), question(own, ours, net+1))
		p.saw(p.on(asks(stationB, net+1, ours), ours, 11), packet(stationB, []byte("p")), answer(own, ours, stationB, net+1))
	}
}

// TestMost: P11.1, P11.2, P11.6: as many entries as were said, and not one more, asked or known.
func TestMost(t *testing.T) {
	for most := 1; most <= 64; most++ {
		p := newPair(t, stationA, most)
		for i := range most {
			p.saw(p.ask(ours, net+uint32(i), nil, i), question(stationA, ours, net+uint32(i)))
		}
		for i := range 3 {
			p.saw(p.ask(ours, net+100+uint32(i), nil, most))
		}
		if got := len(p.cache.Look()); got != most {
			t.Errorf("New(.., %d): %d entries", most, got)
		}
		p.clear()
		for i := range most + 3 {
			p.know(net+20+uint32(i), stationB, most+i)
		}
		if got := len(p.cache.Look()); got != most {
			t.Errorf("New(.., %d): %d known entries", most, got)
		}
	}
}
