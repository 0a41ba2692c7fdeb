package lease_test

import (
	"fmt"
	"math"
	"testing"

	"slipway/api"
)

// TestStart: P18.2: in every state, with a lease held and without: it is dropped, and all begins anew.
func TestStart(t *testing.T) {
	for state := range manyReached {
		p := reach(t, state)
		xid, wait := uint32(9), 30+9
		if state == inInit {
			xid, wait = 7, 30
		} else if state == inSelecting {
			xid = 0 // the examples' third draw
		}
		now := 1900
		if state == inSelecting || state == inRequesting {
			now = 1028
		}
		var want []api.LeaseAct
		if state == inBound || state == inRenewing || state == inRebinding {
			want = append(want, drops(theLease(asked)))
		}
		p.saw(p.start(now), append(want, discover(station, xid, 0))...)
		p.has(inSelecting, xid, api.Lease{}, 1, now+wait)
	}
}

// TestStartAhead: P18.2: a Start does nothing of what is due: a lease that is over by then is dropped once, and no Request goes out.
func TestStartAhead(t *testing.T) {
	for _, now := range []int{1520, 1895, 2020, 5000, maxTime} {
		for _, state := range []int{inBound, inRenewing, inRebinding} {
			p := reach(t, state)
			p.saw(p.start(now), drops(theLease(asked)), discover(station, 9, 0))
		}
	}
	for state := range inBound {
		p := reach(t, state)
		if got := p.start(5000); len(got) != 1 || got[0].Kind != 1 {
			t.Errorf("state %d: %q", state, texts(got))
		}
	}
}

// TestStartTwice: P18.2: each Start opens a question of its own, by two draws.
func TestStartTwice(t *testing.T) {
	p := newPair(t, 11, 20, 12, 21, 13)
	p.saw(p.start(100), discover(station, 11, 0))
	p.has(inSelecting, 11, api.Lease{}, 1, 150)
	p.saw(p.start(100), discover(station, 12, 0))
	p.has(inSelecting, 12, api.Lease{}, 1, 130)
	p.saw(p.start(149), discover(station, 13, 0))
	p.has(inSelecting, 13, api.Lease{}, 1, 179)
	p.saw(p.on(answer(isOffer, 11), 149))
	p.saw(p.on(answer(isOffer, 12), 149))
	p.saw(p.on(answer(isOffer, 13), 149), requestOffer(station, 13, 0, us, them))
}

// TestDrawsLack: P18.2: where no draw is left the Xid is 0, and it is waited for as by a draw 0.
func TestDrawsLack(t *testing.T) {
	p := newPair(t)
	p.saw(p.start(50), discover(station, 0, 0))
	p.has(inSelecting, 0, api.Lease{}, 1, 80)
	p.saw(p.tick(80), discover(station, 0, 3))
	p.has(inSelecting, 0, api.Lease{}, 2, 140)
	p.saw(p.on(answer(isOffer, 0), 90), requestOffer(station, 0, 4, us, them))
	p.has(inRequesting, 0, offered(), 1, 120)
	p.on(answer(isAck, 0), 91)
	p.saw(p.tick(101), adopts(theLease(90)))
	p.saw(p.tick(590), requestHeld(station, 0, 0, us, them))
	p.saw(p.on(answer(isAck, 0), 591), adopts(theLease(590)))
	p = newPair(t, 5)
	p.saw(p.start(50), discover(station, 5, 0))
	p.has(inSelecting, 5, api.Lease{}, 1, 80)
}

// TestTimeDoesNotFall: R7: a time below the greatest that was told counts as that one, in each call.
func TestTimeDoesNotFall(t *testing.T) {
	for _, now := range []int{1000, 999, 0, -1, math.MinInt} {
		p := newPair(t, nines()...)
		p.tick(1000)
		p.saw(p.start(now), discover(station, 7, 0))
		p.stands(inSelecting, 1030)
		p.saw(p.on(answer(isOffer, 7), now), requestOffer(station, 7, 0, us, them))
		p.stands(inRequesting, 1030)
		p.saw(p.on(answer(isAck, 7), now), probes(theLease(1000)))
		p.stands(inProbing, 1010)
		p.saw(p.tick(now))
		p.saw(p.clash(us, now), decline(station, 7, us, them))
		p.stands(inInit, 1100)
		p.saw(p.tick(1100), discover(station, 9, 0))
		p.saw(p.start(now), discover(station, 9, 0))
		p.stands(inSelecting, 1139)
	}
}

// TestTimeBelow0: R7, P18.1: the time is 0 at first, and no less.
func TestTimeBelow0(t *testing.T) {
	for _, now := range []int{0, -1, -10, -100, math.MinInt} {
		p := newPair(t, nines()...)
		p.saw(p.start(now), discover(station, 7, 0))
		p.stands(inSelecting, 30)
		p.on(answer(isOffer, 7), now)
		p.saw(p.on(answer(isAck, 7), now), probes(theLease(0)))
		p.stands(inProbing, 10)
	}
}

// TestTimeIsTold: R7: each call tells the time, though nothing comes of it.
func TestTimeIsTold(t *testing.T) {
	calls := map[string]func(p *pair) []api.LeaseAct{
		"Tick":                 func(p *pair) []api.LeaseAct { return p.tick(1019) },
		"Clash":                func(p *pair) []api.LeaseAct { return p.clash(us, 1019) },
		"On of another Xid":    func(p *pair) []api.LeaseAct { return p.on(answer(isOffer, 8), 1019) },
		"On of what is no fit": func(p *pair) []api.LeaseAct { return p.on(answer(isOffer, 7, secs(0)), 1019) },
		"On of another type":   func(p *pair) []api.LeaseAct { return p.on(answer(isAck, 7), 1019) },
		"On of another station": func(p *pair) []api.LeaseAct {
			return p.on(answer(isOffer, 7, func(m *api.Bootp) { m.Mac = another }), 1019)
		},
	}
	for what, call := range calls {
		p := reach(t, inSelecting)
		p.nothing(func() []api.LeaseAct { return call(p) })
		p.on(answer(isOffer, 7), 0)
		if got := p.client.State().Due; got != 1049 {
			t.Errorf("%s: the time was not told: Due %d", what, got)
		}
	}
}

// TestMaxTime: R7: a time above MaxTime counts as MaxTime, and sums stop there.
func TestMaxTime(t *testing.T) {
	for _, now := range []int{maxTime, maxTime + 1, maxTime + 1000, math.MaxInt} {
		p := newPair(t, nines()...)
		p.start(now)
		p.stands(inSelecting, maxTime)
		p.on(answer(isOffer, 7), now)
		p.stands(inRequesting, maxTime)
		p.on(answer(isAck, 7), now)
		p.stands(inProbing, maxTime)
		p.saw(p.tick(now), discover(station, 9, 0))
	}
	for back := range 1100 {
		p := newPair(t, nines()...)
		p.start(maxTime - back)
		p.stands(inSelecting, min(maxTime-back+30, maxTime))
		p.on(answer(isOffer, 7), maxTime-back)
		p.on(answer(isAck, 7), maxTime-back)
		l := p.client.State().Lease
		want := fmt.Sprint(min(500, back), min(875, back), min(1000, back))
		if got := fmt.Sprint(l.T1-l.From, l.T2-l.From, l.Until-l.From); got != want {
			t.Errorf("from %d ahead of MaxTime: %s, want %s", back, got, want)
		}
		for at := maxTime - back; at < maxTime; at += 7 {
			p.tick(at)
		}
		p.tick(maxTime)
		if _, held := p.client.Held(); held {
			t.Errorf("from %d ahead of MaxTime: held at it", back)
		}
	}
}

// TestRestAtMaxTime: R7: a rest stops at MaxTime, too, and ends there.
func TestRestAtMaxTime(t *testing.T) {
	for _, back := range []int{0, 1, 99, 100, 101} {
		p := newPair(t, nines()...)
		p.start(maxTime - back)
		p.on(answer(isOffer, 7), maxTime-back)
		p.on(answer(isNak, 7), maxTime-back)
		p.stands(inInit, min(maxTime-back+100, maxTime))
		p.saw(p.tick(maxTime+5), discover(station, 9, 0))
	}
}
