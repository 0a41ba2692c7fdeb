package lease_test

import (
	"testing"

	"slipway/api"
)

// toProbing is the examples' first half: the address is being probed, Due is 1060.
func toProbing(t *testing.T) *pair {
	t.Helper()
	p := newPair(t, nines()...)
	p.has(inInit, 0, api.Lease{}, 0, -1)
	p.saw(p.start(1000), discover(station, 7, 0))
	p.has(inSelecting, 7, api.Lease{}, 1, 1030)
	p.saw(p.tick(1029))
	p.saw(p.tick(1030), discover(station, 7, 3))
	p.has(inSelecting, 7, api.Lease{}, 2, 1090)
	asks := func(m *api.Bootp) { m.Op = 1 }
	for _, m := range []api.Bootp{answer(isOffer, 8), answer(isOffer, 7, asks), answer(isOffer, 7, secs(0)), answer(isOffer, 7, withLong(1, 0xff00ff00))} {
		p.saw(p.on(m, 1040))
	}
	p.saw(p.on(answer(isOffer, 7), 1040), requestOffer(station, 7, 4, us, them))
	p.has(inRequesting, 7, offered(), 1, 1079)
	p.saw(p.on(answer(isAck, 7, withLong(54, third)), 1041))
	p.saw(p.on(answer(isAck, 7), 1050), probes(theLease(1040)))
	p.has(inProbing, 7, theLease(1040), 0, 1060)
	p.saw(p.clash(us+1, 1051))
	return p
}

// TestExampleKept: P18.1 to P18.6: the chapter's row up to the end of a lease that nobody gives more time for.
func TestExampleKept(t *testing.T) {
	p := toProbing(t)
	p.saw(p.tick(1060), adopts(theLease(1040)))
	p.has(inBound, 7, theLease(1040), 0, 1540)
	p.saw(p.tick(1540), requestHeld(station, 9, 0, us, them))
	p.has(inRenewing, 9, theLease(1040), 0, 1915)
	p.saw(p.tick(1915), requestHeld(station, 9, 0, us, everyone))
	p.has(inRebinding, 9, theLease(1040), 0, 2040)
	p.saw(p.tick(2039))
	p.saw(p.tick(2040), drops(theLease(1040)), discover(station, 9, 0))
	p.has(inSelecting, 9, api.Lease{}, 1, 2040+30+9)
}

// TestExampleRenewed: P18.4: an Ack while LeaseRenewing gives more time, from when it was asked for.
func TestExampleRenewed(t *testing.T) {
	p := toProbing(t)
	p.tick(1060)
	p.tick(1540)
	p.saw(p.on(answer(isAck, 9), 1545), adopts(theLease(1540)))
	p.has(inBound, 9, theLease(1540), 0, 2040)
}

// TestExampleRefused: P18.4: a Nak while LeaseRenewing takes the lease away.
func TestExampleRefused(t *testing.T) {
	p := toProbing(t)
	p.tick(1060)
	p.tick(1540)
	p.saw(p.on(answer(isNak, 9), 1545), drops(theLease(1040)))
	p.has(inInit, 9, api.Lease{}, 0, 1645)
	p.saw(p.tick(1645), discover(station, 9, 0))
}

// TestExampleClash: P18.5: the address that is being probed is another station's.
func TestExampleClash(t *testing.T) {
	p := toProbing(t)
	p.saw(p.clash(us, 1055), decline(station, 7, us, them))
	p.has(inInit, 7, api.Lease{}, 0, 1155)
}

// TestNew: P18.1: nothing but the station.
func TestNew(t *testing.T) {
	for _, draws := range [][]uint32{nil, {7}} {
		p := newPair(t, draws...)
		p.has(inInit, 0, api.Lease{}, 0, -1)
		for _, now := range []int{-1, 0, 1, 1000000, maxTime, maxTime + 1} {
			p.nothing(func() []api.LeaseAct { return p.tick(now) })
			p.nothing(func() []api.LeaseAct { return p.clash(0, now) })
			p.nothing(func() []api.LeaseAct { return p.on(answer(isOffer, 0), now) })
		}
	}
}
