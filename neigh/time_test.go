package neigh_test

import (
	"math"
	"testing"

	"slipway/api"
)

// TestTimeDoesNotFall: P11.1, R7: a time below the greatest that was told counts as that one, in each call.
func TestTimeDoesNotFall(t *testing.T) {
	for _, now := range []int{100, 99, 0, -1, math.MinInt} {
		p := newPair(t, stationA, 4)
		p.tick(100)
		p.ask(ours, net+1, []byte("x"), now)
		p.has(isAsked(net+1, 110, 1))
		p.on(told(stationB, net+1), ours, now)
		p.has(isKnown(net+1, stationB, 700))
		p.know(net+2, stationB, now)
		p.has(isKnown(net+1, stationB, 700), isKnown(net+2, stationB, 700))
		p.tick(700)
		p.know(net+3, stationB, 0)
		p.saw(p.tick(now))
		p.has(isKnown(net+3, stationB, 1300))
	}
}

// TestTimeBelow0: P11.1, R7: the time is 0 at first, and no less.
func TestTimeBelow0(t *testing.T) {
	for _, now := range []int{-1, -10, -600, math.MinInt} {
		p := newPair(t, stationA, 4)
		p.saw(p.ask(ours, net+1, []byte("x"), now), question(stationA, ours, net+1))
		p.know(net+2, stationB, now)
		p.saw(p.tick(now))
		p.has(isAsked(net+1, 10, 1), isKnown(net+2, stationB, 600))
	}
}

// TestTimeByCallsThatAnswerNothing: P11.1: each call of Ask, On and Tick tells the time, though nothing comes of it; others don't.
func TestTimeByCallsThatAnswerNothing(t *testing.T) {
	calls := map[string]func(*pair){
		"Ask without room":      func(p *pair) { p.ask(ours, net+3, []byte("y"), 50) },
		"Ask of an asked one":   func(p *pair) { p.ask(ours, net+1, []byte("y"), 50) },
		"On of another Op":      func(p *pair) { p.on(api.Arp{Op: 3, SrcMac: stationB, SrcIp: net + 1}, ours, 50) },
		"On from a group":       func(p *pair) { p.on(asks(api.Mac{1}, net+1, ours), ours, 50) },
		"On from no host":       func(p *pair) { p.on(told(stationB, 0), ours, 50) },
		"On from own":           func(p *pair) { p.on(told(stationB, ours), ours, 50) },
		"On without an entry":   func(p *pair) { p.on(told(stationB, net+7), ours, 50) },
		"On without room":       func(p *pair) { p.on(asks(stationB, net+7, ours), ours, 50) },
		"On of one for another": func(p *pair) { p.on(asks(stationB, net+7, net+8), ours, 50) },
		"On with own 0":         func(p *pair) { p.on(asks(stationB, net+7, 0), 0, 50) },
	}
	for what, call := range calls {
		p := newPair(t, stationA, 1)
		p.ask(ours, net+1, []byte("x"), 0)
		call(p)
		if got := p.tick(0); len(got) != 1 {
			t.Errorf("%s: the time was not told: %q", what, got)
		}
		p.has(isAsked(net+1, 60, 2))
	}
	p := newPair(t, stationA, 1)
	p.saw(p.tick(50))
	p.ask(ours, net+1, []byte("x"), 0)
	p.has(isAsked(net+1, 60, 1))
}

// TestTimeIsKeptByTick: P11.1: a Tick that has nothing to do tells the time as well, and so does an Ask to a known station.
func TestTimeIsKeptByTick(t *testing.T) {
	p := newPair(t, stationA, 2)
	p.know(net+1, stationB, 0)
	p.saw(p.ask(ours, net+1, nil, 599), packet(stationB, nil))
	p.know(net+2, stationB, 3)
	p.has(isKnown(net+1, stationB, 600), isKnown(net+2, stationB, 1199))
}

// TestMaxTime: R7: sums stop at MaxTime, from the first tick on that they would be beyond it; a time above MaxTime counts as MaxTime.
func TestMaxTime(t *testing.T) {
	for _, back := range []int{0, 1, 9, 10, 11, 599, 600, 601} {
		now := maxTime - back
		p := newPair(t, stationA, 2)
		p.ask(ours, net+1, []byte("x"), now)
		p.know(net+2, stationB, now)
		p.has(isAsked(net+1, min(now+10, maxTime), 1), isKnown(net+2, stationB, min(now+600, maxTime)))
	}
	for _, now := range []int{maxTime, maxTime + 1, maxTime + 600, math.MaxInt - 1, math.MaxInt} {
		p := newPair(t, stationA, 3)
		p.ask(ours, net+1, []byte("x"), now)
		p.know(net+2, stationB, now)
		p.has(isAsked(net+1, maxTime, 1), isKnown(net+2, stationB, maxTime))
	}
}

// TestAtMaxTime: R7, P11.4, P11.6: where the time can't grow any more what is known is over at once, and three questions go out by three calls.
func TestAtMaxTime(t *testing.T) {
	p := newPair(t, stationA, 2)
	p.tick(math.MaxInt)
	p.know(net+1, stationB, 0)
	p.saw(p.ask(ours, net+1, []byte("x"), 0), question(stationA, ours, net+1))
	p.has(isAsked(net+1, maxTime, 1))
	p.saw(p.tick(0), question(stationA, ours, net+1))
	p.saw(p.tick(0), question(stationA, ours, net+1))
	p.has(isAsked(net+1, maxTime, 3))
	p.saw(p.tick(0))
	p.has()
	p.ask(ours, net+1, []byte("y"), maxTime)
	p.saw(p.on(told(stationB, net+1), ours, maxTime), packet(stationB, []byte("y")))
	p.saw(p.tick(maxTime))
	p.has()
}

// TestKnownUpToMaxTime: R7: what lasts until MaxTime lasts until just ahead of it.
func TestKnownUpToMaxTime(t *testing.T) {
	p := newPair(t, stationA, 1)
	p.know(net+1, stationB, maxTime-3)
	p.saw(p.tick(maxTime - 1))
	p.saw(p.ask(ours, net+1, []byte("x"), maxTime-1), packet(stationB, []byte("x")))
	p.saw(p.ask(ours, net+1, []byte("x"), maxTime), question(stationA, ours, net+1))
}
