package lease_test

import (
	"testing"

	"slipway/api"
)

// TestTickAhead: P18.3, P18.8: ahead of Due nothing is done and no draw is used, in each state; New has none.
func TestTickAhead(t *testing.T) {
	for state := range manyReached {
		due := dues[state]
		for _, now := range []int{-1, 0, 999, 1025, due - 10, due - 2, due - 1} {
			p := reach(t, state)
			if p.client.State().Due != due || p.client.State().Xid != xids[state] {
				t.Fatalf("state %d: %+v", state, p.client.State())
			}
			if state == inInit {
				now = 1<<40 + now
			}
			p.nothing(func() []api.LeaseAct { return p.tick(now) })
			p.nothing(func() []api.LeaseAct { return p.tick(now) })
		}
	}
}

// dueActs is what the states do at their time, be it now or a little above it, up to so many ticks.
var dueActs = [manyReached]func(now int) []api.LeaseAct{
	inSelecting:  func(now int) []api.LeaseAct { return []api.LeaseAct{discover(station, 7, (now-1000)/10)} },
	inRequesting: func(now int) []api.LeaseAct { return []api.LeaseAct{requestOffer(station, 7, (now-1000)/10, us, them)} },
	inProbing:    func(now int) []api.LeaseAct { return []api.LeaseAct{adopts(theLease(asked))} },
	inBound:      func(now int) []api.LeaseAct { return []api.LeaseAct{requestHeld(station, 9, 0, us, them)} },
	inRenewing:   func(now int) []api.LeaseAct { return []api.LeaseAct{requestHeld(station, 9, 0, us, everyone)} },
	inRebinding:  func(now int) []api.LeaseAct { return []api.LeaseAct{drops(theLease(asked)), discover(station, 9, 0)} },
	rested:       func(now int) []api.LeaseAct { return []api.LeaseAct{discover(station, 9, 0)} },
}

// TestTickAtDue: P18.3: at Due, and above it, each state does what is its to do, once.
func TestTickAtDue(t *testing.T) {
	next := [manyReached]int{inSelecting: inSelecting, inRequesting: inRequesting, inProbing: inBound, inBound: inRenewing, inRenewing: inRebinding, inRebinding: inSelecting, rested: inSelecting}
	for state := inSelecting; state < manyReached; state++ {
		for _, above := range []int{0, 1, 9, 11, 100} {
			p := reach(t, state)
			now := dues[state] + above
			p.saw(p.tick(now), dueActs[state](now)...)
			if got := p.client.State().State; got != next[state] {
				t.Errorf("state %d at %d: state %d", state, now, got)
			}
			p.nothing(func() []api.LeaseAct { return p.tick(now) })
		}
	}
}

// TestDiscovers: P18.3: five tries, each with a longer wait, and the sixth time all begins with a new question.
func TestDiscovers(t *testing.T) {
	for _, extra := range []int{0, 1, 20, 30, 320, 321} { // by which each wait is longer, as far as its draw goes
		d := uint32(extra)
		p := newPair(t, 70, d, d, d, d, d, 71, 0)
		p.saw(p.start(0), discover(station, 70, 0))
		at := 0
		for try, wait := range []int{30, 60, 120, 240, 480} {
			wait += extra % (40<<try/2 + 1)
			p.has(inSelecting, 70, api.Lease{}, try+1, at+wait)
			p.nothing(func() []api.LeaseAct { return p.tick(at + wait - 1) })
			at += wait
			if try < 4 {
				p.saw(p.tick(at), discover(station, 70, at/10))
			}
		}
		p.saw(p.tick(at), discover(station, 71, 0))
		p.has(inSelecting, 71, api.Lease{}, 1, at+30)
	}
}

// TestRequests: P18.3: likewise of the Request for an offer; behind the fifth the lease is gone, and a Discover goes out.
func TestRequests(t *testing.T) {
	p := newPair(t, 70, 0, 0, 0, 0, 0, 0, 71, 0)
	p.start(0)
	p.saw(p.on(answer(isOffer, 70), 15), requestOffer(station, 70, 1, us, them))
	at := 15
	for try, wait := range []int{30, 60, 120, 240, 480} {
		p.has(inRequesting, 70, offered(), try+1, at+wait)
		p.nothing(func() []api.LeaseAct { return p.tick(at + wait - 1) })
		at += wait
		if try < 4 {
			p.saw(p.tick(at), requestOffer(station, 70, at/10, us, them))
		}
	}
	p.saw(p.tick(at), discover(station, 71, 0))
	p.has(inSelecting, 71, api.Lease{}, 1, at+30)
}

// TestTriesBeginAnew: P18.4: the tries of the Request are counted from 1, however many Discovers went out; the times are from the first Request on.
func TestTriesBeginAnew(t *testing.T) {
	p := newPair(t, 70)
	p.start(0)
	for _, at := range []int{30, 90, 210, 450} {
		p.tick(at)
	}
	p.has(inSelecting, 70, api.Lease{}, 5, 930)
	p.on(answer(isOffer, 70), 500)
	p.has(inRequesting, 70, offered(), 1, 530)
	p.tick(530)
	p.tick(590)
	p.has(inRequesting, 70, offered(), 3, 710)
	p.saw(p.on(answer(isAck, 70), 600), probes(theLease(500)))
	p.has(inProbing, 70, theLease(500), 0, 610)
	p.tick(610)
	p.has(inBound, 70, theLease(500), 0, 1000)
	p.tick(1000)
	p.has(inRenewing, 0, theLease(500), 0, 1375)
}

// TestLateTick: P18.3: a Tick far above Due is one try, and the wait is from then on.
func TestLateTick(t *testing.T) {
	p := newPair(t, 70)
	p.start(0)
	p.saw(p.tick(100000), discover(station, 70, 10000))
	p.has(inSelecting, 70, api.Lease{}, 2, 100060)
	p = newPair(t, 70)
	p.start(0)
	p.on(answer(isOffer, 70), 0)
	p.saw(p.tick(100000), requestOffer(station, 70, 10000, us, them))
	p.has(inRequesting, 70, offered(), 2, 100060)
}

// TestSecs: whole seconds, and 65535 at most, in each message that tells them.
func TestSecs(t *testing.T) {
	for now, want := range map[int]int{30: 3, 39: 3, 40: 4, 655349: 65534, 655350: 65535, 655359: 65535, 655360: 65535, 900000: 65535, maxTime: 65535} {
		p := newPair(t, 70)
		p.start(0)
		p.saw(p.tick(now), discover(station, 70, want))
		p = newPair(t, 70)
		p.start(0)
		p.saw(p.on(answer(isOffer, 70), 1), requestOffer(station, 70, 0, us, them))
		p.saw(p.tick(now+1), requestOffer(station, 70, min((now+1)/10, 65535), us, them))
	}
	p := reach(t, inRenewing, secs(4294967294))
	l := p.client.State().Lease
	p.saw(p.tick(p.plain.due), requestHeld(station, 9, 65535, us, them))
	p.saw(p.tick(l.T2), requestHeld(station, 9, 0, us, everyone))
	p.saw(p.tick(p.plain.due), requestHeld(station, 9, 65535, us, everyone))
	p.saw(p.clash(us, p.plain.now+1), drops(l), decline(station, 9, us, them))
}

// TestHalves: a held lease is asked for behind half of what is left, and never sooner than 600 ticks, but at the end of the stretch.
func TestHalves(t *testing.T) {
	p := reach(t, inBound, secs(1000), withLong(58, 100), withLong(59, 600)) // from 1020: 2020, 7020, 11020
	p.saw(p.tick(2020), requestHeld(station, 9, 0, us, them))
	for _, at := range []int{4520, 5770, 6395, 6995, 7020} {
		p.stands(inRenewing, at)
		p.nothing(func() []api.LeaseAct { return p.tick(at - 1) })
		if at < 7020 {
			p.saw(p.tick(at), requestHeld(station, 9, (at-2020)/10, us, them))
		}
	}
	p.saw(p.tick(7020), requestHeld(station, 9, 0, us, everyone))
	for _, at := range []int{9020, 10020, 10620, 11020} {
		p.stands(inRebinding, at)
		p.nothing(func() []api.LeaseAct { return p.tick(at - 1) })
		if at < 11020 {
			p.saw(p.tick(at), requestHeld(station, 9, (at-7020)/10, us, everyone))
		}
	}
	if got := p.tick(11020); len(got) != 2 || got[0].Kind != 4 {
		t.Errorf("at the end: %q", texts(got))
	}
	p.stands(inSelecting, 11059)
}

// TestHalvesAtTheLeast: what is left is 1199 to 1203 ticks: half of it is rounded down, and 600 at least.
func TestHalvesAtTheLeast(t *testing.T) {
	for left, wait := range map[int]int{599: 599, 600: 600, 601: 600, 1199: 600, 1200: 600, 1201: 600, 1202: 601, 1203: 601, 1204: 602} {
		p := reach(t, inBound, secs(1000), withLong(58, 100), withLong(59, 600))
		p.tick(7020 - left)
		p.stands(inRenewing, 7020-left+wait)
		p = reach(t, inBound, secs(1000), withLong(58, 100), withLong(59, 600))
		p.tick(11020 - left)
		p.stands(inRebinding, 11020-left+wait)
	}
}

// TestSeveralDue: several times over at once: the last one counts alone.
func TestSeveralDue(t *testing.T) {
	l := theLease(asked)
	renew := func(secs int) api.LeaseAct { return requestHeld(station, 9, secs, us, them) }
	rebind := requestHeld(station, 9, 0, us, everyone)
	over := []api.LeaseAct{drops(l), discover(station, 9, 0)}
	rows := []struct {
		state, now int
		want       []api.LeaseAct
		behind     int
	}{
		{inProbing, 1519, []api.LeaseAct{adopts(l)}, inBound},
		{inProbing, 1520, []api.LeaseAct{adopts(l), renew(0)}, inRenewing},
		{inProbing, 1894, []api.LeaseAct{adopts(l), renew(0)}, inRenewing},
		{inProbing, 1895, []api.LeaseAct{adopts(l), rebind}, inRebinding},
		{inProbing, 2019, []api.LeaseAct{adopts(l), rebind}, inRebinding},
		{inProbing, 2020, []api.LeaseAct{discover(station, 9, 0)}, inSelecting},
		{inProbing, 9999, []api.LeaseAct{discover(station, 9, 0)}, inSelecting},
		{inBound, 1894, []api.LeaseAct{renew(0)}, inRenewing},
		{inBound, 1895, []api.LeaseAct{rebind}, inRebinding},
		{inBound, 2019, []api.LeaseAct{rebind}, inRebinding},
		{inBound, 2020, over, inSelecting},
		{inRenewing, 2019, []api.LeaseAct{rebind}, inRebinding},
		{inRenewing, 2020, over, inSelecting},
		{inRebinding, 9999, over, inSelecting},
	}
	for _, row := range rows {
		p := reach(t, row.state)
		p.saw(p.tick(row.now), row.want...)
		if got := p.client.State().State; got != row.behind {
			t.Errorf("state %d at %d: state %d, want %d", row.state, row.now, got, row.behind)
		}
	}
}

// TestForever: a lease that never ends is never asked for again.
func TestForever(t *testing.T) {
	p := reach(t, inProbing, secs(4294967295))
	l := offered()
	l.From, l.T1, l.T2, l.Until = asked, -1, -1, -1
	p.has(inProbing, 7, l, 0, 1035)
	p.saw(p.tick(1035), adopts(l))
	p.has(inBound, 7, l, 0, -1)
	for _, now := range []int{1036, 100000, maxTime - 1, maxTime, maxTime + 1} {
		p.nothing(func() []api.LeaseAct { return p.tick(now) })
		p.nothing(func() []api.LeaseAct { return p.on(answer(isAck, 7), now) })
	}
	p.saw(p.clash(us, 0), drops(l), decline(station, 7, us, them))
	p = reach(t, inProbing, secs(4294967295))
	p.saw(p.tick(maxTime), adopts(l))
	p.saw(p.start(maxTime), drops(l), discover(station, 9, 0))
}

// TestOneSecond: a lease of one second is over as long as it is being probed; renewed for one, it is asked for at once.
func TestOneSecond(t *testing.T) {
	p := reach(t, inProbing, secs(1))
	l := offered()
	l.From, l.T1, l.T2, l.Until = asked, asked+5, asked+8, asked+10
	p.has(inProbing, 7, l, 0, 1035)
	p.saw(p.tick(1035), discover(station, 9, 0))
	for late := range 12 {
		p = reach(t, inRenewing)
		at := 1520 + late
		renewed := l
		renewed.From, renewed.T1, renewed.T2, renewed.Until = 1520, 1525, 1528, 1530
		var want []api.LeaseAct
		state, due := inRenewing, 1895
		switch {
		case late < 5:
			want, state, due = []api.LeaseAct{adopts(renewed)}, inBound, 1525
		case late < 8:
			want, state, due = []api.LeaseAct{adopts(renewed), requestHeld(station, 9, 0, us, them)}, inRenewing, 1528
		case late < 10:
			want, state, due = []api.LeaseAct{adopts(renewed), requestHeld(station, 9, 0, us, everyone)}, inRebinding, 1530
		}
		p.saw(p.on(answer(isAck, 9, secs(1)), at), want...)
		p.stands(state, due)
	}
}

// TestTwoSeconds: a short lease lives through its probing, and is asked for as soon as it is held.
func TestTwoSeconds(t *testing.T) {
	for late, want := range []int{inBound, inRenewing, inRenewing, inRenewing, inRenewing, inRenewing, inRenewing, inRenewing, inRebinding, inRebinding, inRebinding, inSelecting} {
		p := newPair(t, nines()...)
		p.start(1000)
		p.on(answer(isOffer, 7, secs(2)), 1000) // until 1020, T1 1010, T2 1017
		p.on(answer(isAck, 7, secs(2)), 1000)
		p.tick(1009 + late)
		if late == 0 {
			p.tick(1010)
			want = inRenewing
		}
		if got := p.client.State().State; got != want {
			t.Errorf("%d ticks late: state %d, want %d", late, got, want)
		}
	}
}

// TestTickAtNext: P18.8: behind a Tick at Due there is a later one, or none, all along; ahead of it nothing is done.
func TestTickAtNext(t *testing.T) {
	for _, n := range []uint32{1, 2, 10, 100, 4294967294, 4294967295} {
		for answered := range 4 {
			p := reach(t, inSelecting)
			for range 200 {
				at, some := p.client.Next()
				if !some {
					break
				}
				p.nothing(func() []api.LeaseAct { return p.tick(at - 1) })
				p.tick(at)
				if later, some := p.client.Next(); some && later <= at {
					t.Fatalf("%d seconds: Next %d behind a Tick at %d", n, later, at)
				}
				if answered > 0 {
					p.on(answer(isOffer, p.plain.xid, secs(n)), at)
				}
				if answered > 1 && !p.plain.isHeld() || answered > 2 {
					p.on(answer(isAck, p.plain.xid, secs(n)), at)
				}
			}
		}
	}
}
