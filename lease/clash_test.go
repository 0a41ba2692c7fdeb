package lease_test

import (
	"testing"

	"slipway/api"
)

// TestClash: P18.5: in each state, of the lease's address: a lease that is held is dropped, one that is probed or held is declined; an offered one is left.
func TestClash(t *testing.T) {
	l := theLease(asked)
	want := [manyReached][]api.LeaseAct{
		inProbing:   {decline(station, 7, us, them)},
		inBound:     {drops(l), decline(station, 7, us, them)},
		inRenewing:  {drops(l), decline(station, 9, us, them)},
		inRebinding: {drops(l), decline(station, 9, us, them)},
	}
	for state := range manyReached {
		p := reach(t, state)
		now := inTime(state)
		call := func() []api.LeaseAct { return p.clash(us, now) }
		if want[state] == nil {
			p.nothing(call)
			continue
		}
		left := p.dice.Left()
		p.saw(call(), want[state]...)
		p.has(inInit, xids[state], api.Lease{}, 0, now+100)
		if p.dice.Left() != left {
			t.Errorf("state %d: a draw was used", state)
		}
		p.nothing(func() []api.LeaseAct { return p.clash(us, now+99) })
		p.saw(p.tick(now+100), discover(station, 9, 0))
	}
}

// TestClashOfAnother: P18.5: of another address nothing is done, in each state.
func TestClashOfAnother(t *testing.T) {
	for state := range manyReached {
		for _, ip := range []uint32{0, us + 1, us - 1, us ^ 1<<31, them, 0x0a0000ff, everyone} {
			p := reach(t, state)
			p.nothing(func() []api.LeaseAct { return p.clash(ip, inTime(state)) })
		}
	}
}

// TestClashTicksFirst: P18.5: what is due is done ahead of it; what is gone by then is not declined.
func TestClashTicksFirst(t *testing.T) {
	l := theLease(asked)
	rows := []struct {
		state, now int
		want       []api.LeaseAct
	}{
		{inSelecting, 1030, []api.LeaseAct{discover(station, 7, 3)}},
		{inRequesting, 1050, []api.LeaseAct{requestOffer(station, 7, 5, us, them)}},
		{inProbing, 1035, []api.LeaseAct{adopts(l), drops(l), decline(station, 7, us, them)}},
		{inProbing, 1520, []api.LeaseAct{adopts(l), requestHeld(station, 9, 0, us, them), drops(l), decline(station, 9, us, them)}},
		{inProbing, 2020, []api.LeaseAct{discover(station, 9, 0)}},
		{inBound, 1520, []api.LeaseAct{requestHeld(station, 9, 0, us, them), drops(l), decline(station, 9, us, them)}},
		{inRenewing, 1895, []api.LeaseAct{requestHeld(station, 9, 0, us, everyone), drops(l), decline(station, 9, us, them)}},
		{inRebinding, 2020, []api.LeaseAct{drops(l), discover(station, 9, 0)}},
		{rested, 1125, []api.LeaseAct{discover(station, 9, 0)}},
	}
	for _, row := range rows {
		p := reach(t, row.state)
		p.saw(p.clash(us, row.now), row.want...)
		p = reach(t, row.state)
		p.saw(p.clash(us+1, row.now), reach(t, row.state).tick(row.now)...)
	}
}

// TestDeclineTells: 'What is sent': the Decline names the lease's own address and server, and no seconds, however old the question is.
func TestDeclineTells(t *testing.T) {
	turns := []turn{withYi(0x0a000063), withLong(54, 0x0b000007), secs(4294967295)}
	for _, now := range []int{1025, 1034, 1035, 500000, 50000000, maxTime} {
		p := reach(t, inProbing, turns...)
		got := p.clash(0x0a000063, now)
		p.saw(got[len(got)-1:], decline(station, 7, 0x0a000063, 0x0b000007))
	}
}
