package neigh_test

import (
	"math"
	"slices"
	"testing"

	"slipway/api"
)

// TestTickKnown: P11.4: a known entry goes at Until, not ahead of it.
func TestTickKnown(t *testing.T) {
	for _, now := range []int{598, 599, 600, 601, 5000, maxTime, math.MaxInt} {
		p := newPair(t, stationA, 1)
		p.know(net+1, stationB, 0)
		p.saw(p.tick(now))
		if now < 600 {
			p.has(isKnown(net+1, stationB, 600))
		} else {
			p.has()
		}
	}
}

// TestTickAsked: P11.4: of an asked one at Until - 1, at Until and beyond it, behind one, two and three questions.
func TestTickAsked(t *testing.T) {
	for tries := 1; tries <= 3; tries++ {
		for _, over := range []int{-2, -1, 0, 1, 9, 10, 50, 100000} {
			p := newPair(t, stationA, 1)
			p.ask(ours, net+1, []byte("x"), 0)
			for i := 1; i < tries; i++ {
				p.saw(p.tick(10*i), question(stationA, ours, net+1))
			}
			until := 10 * tries
			p.has(isAsked(net+1, until, tries))
			now := until + over
			got := p.tick(now)
			switch {
			case over < 0:
				p.saw(got)
				p.has(isAsked(net+1, until, tries))
			case tries < 3:
				p.saw(got, question(stationA, ours, net+1))
				p.has(isAsked(net+1, now+10, tries+1))
			default:
				p.saw(got)
				p.has()
				p.saw(p.on(told(stationB, net+1), ours, now))
				p.has()
			}
		}
	}
}

// TestTickOnce: P11.4: one Tick does one thing an entry, however far it goes; a second one at the same time does nothing more.
func TestTickOnce(t *testing.T) {
	p := newPair(t, stationA, 1)
	p.ask(ours, net+1, []byte("x"), 0)
	p.saw(p.tick(1000), question(stationA, ours, net+1))
	p.saw(p.tick(1000))
	p.saw(p.tick(1009))
	p.has(isAsked(net+1, 1010, 2))
	p.saw(p.tick(1010), question(stationA, ours, net+1))
	p.saw(p.tick(1010))
	p.saw(p.tick(1020))
	p.has()
}

// TestTickOrder: P11.4: questions come by rising addresses, whenever they were due and in which order ever the entries were made.
func TestTickOrder(t *testing.T) {
	for range 10 { // a map's order is another one each time
		p := newPair(t, stationA, 64)
		for i := range uint32(64) {
			p.ask(ours, (i*37+11)%64*0x04000001, []byte{byte(i)}, int(i)/8)
		}
		for _, now := range []int{12, 20, 30, 40} {
			got := p.tick(now) // texts that differ in the address alone, with as many digits each
			if !slices.IsSorted(got) {
				t.Errorf("Tick(%d): %q", now, got)
			}
		}
		if got := p.tick(50); len(got) > 0 {
			t.Errorf("Tick(50): %q", got)
		}
		p.has()
	}
}

// TestTickOfSeveral: P11.4: each entry by what it is: some go, some are asked for, some stay.
func TestTickOfSeveral(t *testing.T) {
	p := newPair(t, stationA, 6)
	p.know(net+1, stationB, 0)
	p.know(net+5, stationC, 1)
	p.ask(ours, net+4, []byte("4"), 570)
	p.tick(580)
	p.tick(590)
	p.ask(7, net+3, []byte("3"), 590)
	p.ask(8, net+2, []byte("2"), 590)
	p.ask(9, net+6, []byte("6"), 591)
	p.saw(p.tick(600), question(stationA, 8, net+2), question(stationA, 7, net+3))
	p.has(isAsked(net+2, 610, 2), isAsked(net+3, 610, 2), isKnown(net+5, stationC, 601), isAsked(net+6, 601, 1))
}

// TestNext: P11.5: the least Until of all, known or asked, wherever it stands among the addresses.
func TestNext(t *testing.T) {
	next := func(p *pair, want int) {
		t.Helper()
		if at, some := p.cache.Next(); at != want || !some {
			t.Errorf("Next: %d, %v, want %d", at, some, want)
		}
	}
	p := newPair(t, stationA, 4)
	p.know(net+2, stationB, 0)
	next(p, 600)
	p.know(net+1, stationB, 5)
	next(p, 600)
	p.know(net+2, stationB, 6)
	next(p, 605)
	p.ask(ours, net+3, nil, 100)
	next(p, 110)
	p.ask(ours, net+0, nil, 99)
	p.ask(ours, net+3, nil, 105)
	next(p, 110)
	p.tick(110)
	next(p, 120)
	p.tick(700)
	next(p, 710)
	p.tick(5000)
	if at, some := p.cache.Next(); at != 0 || some {
		t.Errorf("Next without entries: %d, %v", at, some)
	}
}

// TestTickAtNextDoesSomething: P11.5: Next is just when a Tick has something to do.
func TestTickAtNextDoesSomething(t *testing.T) {
	r := draws()
	for range 100 {
		p := newPair(t, stationA, 8)
		for range 20 {
			p.step(r)
		}
		p.tick(p.plain.now)
		for {
			at, some := p.cache.Next()
			if !some {
				break
			}
			before := p.cache.Look()
			if at > p.plain.now {
				p.saw(p.tick(at - 1))
				p.has(before...)
			}
			got := p.tick(at)
			if len(got) == 0 && len(p.cache.Look()) == len(before) {
				t.Fatalf("Tick(%d), which Next told: nothing", at)
			}
		}
	}
}

// TestLook: P11.5: all entries by rising addresses, with their fields.
func TestLook(t *testing.T) {
	p := newPair(t, stationA, 5)
	p.ask(ours, 0xffffffff, nil, 0)
	p.know(0x80000000, stationC, 1)
	p.ask(ours, 0, []byte("x"), 2)
	p.know(0x7effffff, stationB, 3)
	p.tick(10)
	p.ask(ours, net, nil, 11)
	p.has(isAsked(0, 12, 1), isAsked(net, 21, 1), isKnown(0x7effffff, stationB, 603), isKnown(0x80000000, stationC, 601), isAsked(0xffffffff, 20, 2))
}

// TestClear: P11.5, P11.6: entries go, and what waits; what was cleared is never sent; there is room again.
func TestClear(t *testing.T) {
	p := newPair(t, stationA, 2)
	p.clear()
	p.ask(ours, net+1, []byte("x"), 0)
	p.know(net+2, stationB, 1)
	p.clear()
	p.has()
	if at, some := p.cache.Next(); at != 0 || some {
		t.Errorf("Next behind Clear: %d, %v", at, some)
	}
	p.saw(p.tick(10))
	p.saw(p.on(told(stationB, net+1), ours, 11))
	p.has()
	p.saw(p.ask(ours, net+2, []byte("y"), 12), question(stationA, ours, net+2))
	p.saw(p.ask(ours, net+1, []byte("z"), 12), question(stationA, ours, net+1))
	p.has(isAsked(net+1, 22, 1), isAsked(net+2, 22, 1))
	p.saw(p.on(told(stationC, net+1), ours, 13), packet(stationC, []byte("z")))
}

// TestClearKeepsTheTime: P11.1, P11.5: Clear tells no time, and the one that was told stays.
func TestClearKeepsTheTime(t *testing.T) {
	p := newPair(t, stationA, 1)
	p.tick(50)
	p.clear()
	p.ask(ours, net+1, nil, 3)
	p.has(isAsked(net+1, 60, 1))
}

// TestWaits: P11.6: an entry is asked just if a packet waits.
func TestWaits(t *testing.T) {
	p := newPair(t, stationA, 4)
	r := draws()
	for range 2000 {
		p.step(r)
		for _, e := range p.cache.Look() {
			if e.Waiting != (e.State == api.NeighAsked) || (e.Tries > 0) != e.Waiting || e.Tries > 3 {
				t.Fatalf("an entry %v", e)
			}
		}
	}
}
