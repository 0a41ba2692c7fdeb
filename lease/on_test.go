package lease_test

import (
	"fmt"
	"math"
	"testing"

	"slipway/api"
)

// inTime is a time at which a state behind reach has nothing due.
func inTime(state int) int {
	if state == inInit {
		return 1025
	}
	return dues[state] - 1
}

// TestTypes: P18.4: in each state the types that it waits for, and nothing of all others.
func TestTypes(t *testing.T) {
	l := theLease(asked)
	want := map[string][]api.LeaseAct{
		"1 2": {requestOffer(station, 7, 2, us, them)},
		"2 5": {probes(l)},
		"2 6": {},
		"5 5": {adopts(since(offered(), 1520))},
		"5 6": {drops(l)},
		"6 5": {adopts(since(offered(), 1895))},
		"6 6": {drops(l)},
	}
	for state := range manyReached {
		for kind := range 256 {
			p := reach(t, state)
			call := func() []api.LeaseAct { return p.on(answer(byte(kind), xids[state]), inTime(state)) }
			if acts, some := want[fmt.Sprint(state, " ", kind)]; some {
				p.saw(call(), acts...)
			} else {
				p.nothing(call)
			}
		}
	}
}

// TestNoType: P18.4: a message whose type has no byte, or two, or is missing, is nothing in every state.
func TestNoType(t *testing.T) {
	for state := range manyReached {
		for _, kind := range []byte{isOffer, isAck, isNak} {
			for _, turned := range []turn{without(53), with(53), with(53, kind, 0), with(53, 0, kind)} {
				p := reach(t, state)
				p.nothing(func() []api.LeaseAct { return p.on(answer(kind, xids[state], turned), inTime(state)) })
			}
		}
	}
}

// TestNotForUs: P18.4: a message of another Op, another station or another Xid is nothing in every state.
func TestNotForUs(t *testing.T) {
	ways := map[string]turn{
		"Op 0":                    func(m *api.Bootp) { m.Op = 0 },
		"Op 1":                    func(m *api.Bootp) { m.Op = 1 },
		"Op 3":                    func(m *api.Bootp) { m.Op = 3 },
		"Op -2":                   func(m *api.Bootp) { m.Op = -2 },
		"another station":         func(m *api.Bootp) { m.Mac = another },
		"no station":              func(m *api.Bootp) { m.Mac = api.Mac{} },
		"another station's begin": func(m *api.Bootp) { m.Mac[0]++ },
		"another Xid":             func(m *api.Bootp) { m.Xid++ },
		"a lesser Xid":            func(m *api.Bootp) { m.Xid-- },
		"a far Xid":               func(m *api.Bootp) { m.Xid ^= 1 << 31 },
	}
	for what, way := range ways {
		for state := range manyReached {
			for _, kind := range []byte{isOffer, isAck, isNak} {
				p := reach(t, state)
				p.nothing(func() []api.LeaseAct { return p.on(answer(kind, xids[state], way), inTime(state)) })
				if t.Failed() {
					t.Fatalf("%s, state %d, type %d", what, state, kind)
				}
			}
		}
	}
}

// TestFromIsNotLookedAt: P18.4: whoever a message came from, it is the same.
func TestFromIsNotLookedAt(t *testing.T) {
	for _, from := range []uint32{0, us, them, third, 0x7f000001, everyone} {
		p := reach(t, inRequesting)
		got := p.client.On(from, answer(isAck, 7), 1025, p.dice)
		p.plain.on(answer(isAck, 7), 1025)
		p.saw(p.check("On", got), probes(theLease(asked)))
	}
}

// TestOldXid: P18.4: what answers a question ahead of the open one is not heard.
func TestOldXid(t *testing.T) {
	for _, state := range []int{inRenewing, inRebinding} {
		p := reach(t, state)
		p.nothing(func() []api.LeaseAct { return p.on(answer(isAck, 7), dues[state]-1) })
		p.nothing(func() []api.LeaseAct { return p.on(answer(isNak, 7), dues[state]-1) })
	}
	p := newPair(t, 1, 0, 0, 2, 3)
	p.start(0)
	p.on(answer(isOffer, 1), 0)
	p.on(answer(isAck, 1), 0)
	p.tick(10)
	p.tick(500)
	p.has(inRenewing, 2, theLease(0), 0, 875)
	p.tick(875)
	p.has(inRebinding, 3, theLease(0), 0, 1000)
	p.nothing(func() []api.LeaseAct { return p.on(answer(isAck, 2), 876) })
	p.nothing(func() []api.LeaseAct { return p.on(answer(isNak, 2), 876) })
	p.saw(p.on(answer(isAck, 3), 876), adopts(theLease(875)))
}

// TestAckOfAnother: P18.4: an Ack of another Ip is nothing; of another Server only where everyone was asked.
func TestAckOfAnother(t *testing.T) {
	for _, state := range []int{inRequesting, inRenewing, inRebinding} {
		now := inTime(state)
		for _, ip := range []uint32{us + 1, us - 1, us ^ 1<<7, 0x0b000005} {
			for _, by := range []uint32{them, third} {
				p := reach(t, state)
				p.nothing(func() []api.LeaseAct { return p.on(answer(isAck, xids[state], withYi(ip), withLong(54, by)), now) })
			}
		}
	}
	for state, now := range map[int]int{inRequesting: 1025, inRenewing: 1600} {
		p := reach(t, state)
		p.nothing(func() []api.LeaseAct { return p.on(answer(isAck, xids[state], withLong(54, third)), now) })
	}
	p := reach(t, inRebinding)
	l := theLease(1895)
	l.Server, l.Next = third, third
	p.saw(p.on(answer(isAck, 9, withLong(54, third)), 1900), adopts(l))
	p.saw(p.tick(l.T1), requestHeld(station, 9, 0, us, third))
	p.nothing(func() []api.LeaseAct { return p.on(answer(isAck, 9), l.T1+1) })
	p.nothing(func() []api.LeaseAct { return p.on(answer(isNak, 9), l.T1+1) })
	p.saw(p.on(answer(isNak, 9, withLong(54, third)), l.T1+1), drops(l))
}

// nakServers is what a Nak's 54 may be, and who may say so then.
func nakServers() []struct {
	what  string
	turns []turn
	from  uint32 // 0: nobody
} {
	return []struct {
		what  string
		turns []turn
		from  uint32
	}{
		{"the server's", nil, them},
		{"another one's", []turn{withLong(54, third)}, third},
		{"no host's", []turn{withLong(54, 0)}, 1},
		{"everyone's", []turn{withLong(54, everyone)}, everyone},
		{"missing", []turn{without(54)}, 0},
		{"of no bytes", []turn{with(54)}, 0},
		{"of three", []turn{with(54, 10, 0, 0)}, 0},
		{"of five", []turn{with(54, 10, 0, 0, 1, 0)}, 0},
		{"short, and a good one behind", []turn{with(54, 10), behind(54, 10, 0, 0, 1)}, 0},
		{"the server's, and another one's behind", []turn{behind(54, 10, 0, 0, 2)}, them},
	}
}

// TestNak: P18.4: a Nak counts by its 54 alone, whatever else is in it.
func TestNak(t *testing.T) {
	bare := []turn{without(51), without(1), without(3), withYi(0)}
	for _, row := range nakServers() {
		for state, hears := range map[int]bool{inRequesting: row.from == them, inRenewing: row.from == them, inRebinding: row.from != 0} {
			for _, turns := range [][]turn{row.turns, append(bare[:4:4], row.turns...)} {
				p := reach(t, state)
				now := inTime(state)
				call := func() []api.LeaseAct { return p.on(answer(isNak, xids[state], turns...), now) }
				if !hears {
					p.nothing(call)
					continue
				}
				var want []api.LeaseAct
				if state != inRequesting {
					want = append(want, drops(theLease(asked)))
				}
				p.saw(call(), want...)
				p.has(inInit, xids[state], api.Lease{}, 0, now+100)
				p.saw(p.tick(now+100), discover(station, 9, 0))
				if t.Failed() {
					t.Fatalf("54 %s, state %d", row.what, state)
				}
			}
		}
	}
}

// TestLateAck: P18.4: an Ack for a held lease that would be over already is nothing; a lease that was asked for newly is probed all the same, and is over then.
func TestLateAck(t *testing.T) {
	for late, taken := range map[int]bool{0: true, 98: true, 99: true, 100: false, 101: false, 300: false} {
		p := reach(t, inRenewing)
		call := func() []api.LeaseAct { return p.on(answer(isAck, 9, secs(10)), 1520+late) }
		if !taken {
			p.nothing(call)
			continue
		}
		got := call()
		if len(got) == 0 || got[0].Kind != 3 || got[0].Lease.Until != 1620 {
			t.Errorf("%d ticks late: %q", late, texts(got))
		}
	}
	p := reach(t, inRebinding, secs(10), withLong(58, 5), withLong(59, 6)) // until 1120, asked for at 1080
	p.stands(inRebinding, 1120)
	p.nothing(func() []api.LeaseAct { return p.on(answer(isAck, 9, secs(2)), 1100) })
	p.saw(p.on(answer(isAck, 9, secs(4294967295)), 1119), adopts(timing{4294967295, nil, nil, -1, -1, -1}.lease(1080)))
	p = reach(t, inRequesting)
	l := timing{2, nil, nil, 10, 17, 20}.lease(asked)
	p.saw(p.on(answer(isAck, 7, secs(2)), 1045), probes(l))
	p.has(inProbing, 7, l, 0, 1055)
	p.saw(p.tick(1055), discover(station, 9, 0))
}

// TestLateAckAtOnce: P18.4, 'It is adopted': an Ack whose lease is past its T1, or T2, is taken, and more time is asked for in the same breath.
func TestLateAckAtOnce(t *testing.T) {
	l := theLease(1520)
	l.T1, l.T2, l.Until = 1530, 1540, 1890
	turns := []turn{secs(37), withLong(58, 1), withLong(59, 2)}
	for now, want := range map[int][]api.LeaseAct{
		1529: {adopts(l)},
		1530: {adopts(l), requestHeld(station, 9, 0, us, them)},
		1539: {adopts(l), requestHeld(station, 9, 0, us, them)},
		1540: {adopts(l), requestHeld(station, 9, 0, us, everyone)},
		1889: {adopts(l), requestHeld(station, 9, 0, us, everyone)},
		1890: nil,
	} {
		p := reach(t, inRenewing)
		p.saw(p.on(answer(isAck, 9, turns...), now), want...)
	}
}

// TestOnTicksFirst: P18.4: what is due is done ahead of the message, which is looked at by what stands then.
func TestOnTicksFirst(t *testing.T) {
	l := theLease(asked)
	rows := []struct {
		state int
		m     api.Bootp
		now   int
		want  []api.LeaseAct
	}{
		{inSelecting, answer(isOffer, 7), 1030, []api.LeaseAct{discover(station, 7, 3), requestOffer(station, 7, 3, us, them)}},
		{inRequesting, answer(isAck, 7), 1050, []api.LeaseAct{requestOffer(station, 7, 5, us, them), probes(l)}},
		{inRequesting, answer(isNak, 7), 1050, []api.LeaseAct{requestOffer(station, 7, 5, us, them)}},
		{inRequesting, answer(isOffer, 7), 1050, []api.LeaseAct{requestOffer(station, 7, 5, us, them)}},
		{inProbing, answer(isNak, 7), 1035, []api.LeaseAct{adopts(l)}},
		{inProbing, answer(isAck, 7), 1035, []api.LeaseAct{adopts(l)}},
		{inProbing, answer(isAck, 9), 1530, []api.LeaseAct{adopts(l), requestHeld(station, 9, 0, us, them), adopts(theLease(1530))}},
		{inProbing, answer(isOffer, 9), 2020, []api.LeaseAct{discover(station, 9, 0), requestOffer(station, 9, 0, us, them)}},
		{inBound, answer(isAck, 7), 1520, []api.LeaseAct{requestHeld(station, 9, 0, us, them)}},
		{inBound, answer(isAck, 9), 1520, []api.LeaseAct{requestHeld(station, 9, 0, us, them), adopts(theLease(1520))}},
		{inBound, answer(isNak, 9), 1520, []api.LeaseAct{requestHeld(station, 9, 0, us, them), drops(l)}},
		{inRenewing, answer(isNak, 9, withLong(54, third)), 1895, []api.LeaseAct{requestHeld(station, 9, 0, us, everyone), drops(l)}},
		{inRenewing, answer(isAck, 9), 1895, []api.LeaseAct{requestHeld(station, 9, 0, us, everyone), adopts(theLease(1895))}},
		{inRebinding, answer(isAck, 9), 2020, []api.LeaseAct{drops(l), discover(station, 9, 0)}},
		{inRebinding, answer(isNak, 9), 2020, []api.LeaseAct{drops(l), discover(station, 9, 0)}},
		{inRebinding, answer(isOffer, 9), 2020, []api.LeaseAct{drops(l), discover(station, 9, 0), requestOffer(station, 9, 0, us, them)}},
		{rested, answer(isOffer, 9), 1125, []api.LeaseAct{discover(station, 9, 0), requestOffer(station, 9, 0, us, them)}},
		{rested, answer(isOffer, 7), 1125, []api.LeaseAct{discover(station, 9, 0)}},
		{rested, answer(isOffer, 7), 1124, nil},
	}
	for _, row := range rows {
		p := reach(t, row.state)
		p.saw(p.on(row.m, row.now), row.want...)
	}
}

// TestFirstOffer: P18.4: the first Offer that fits is taken; another one behind it, better or not, is nothing.
func TestFirstOffer(t *testing.T) {
	p := reach(t, inSelecting)
	p.nothing(func() []api.LeaseAct { return p.on(answer(isOffer, 7, secs(0)), 1002) })
	p.on(answer(isOffer, 7, withYi(us+1), withLong(54, third)), 1003)
	p.nothing(func() []api.LeaseAct { return p.on(answer(isOffer, 7, secs(4294967295)), 1004) })
	p.nothing(func() []api.LeaseAct { return p.on(answer(isAck, 7), 1004) })
	l := theLease(1003)
	l.Ip, l.Server, l.Next = us+1, third, third
	p.saw(p.on(answer(isAck, 7, withYi(us+1), withLong(54, third)), 1005), probes(l))
	p.nothing(func() []api.LeaseAct { return p.on(answer(isAck, 7, withYi(us+1), withLong(54, third)), 1006) })
}

// TestAckTwice: P18.4: a second Ack for the same question is nothing, once the first one was taken.
func TestAckTwice(t *testing.T) {
	for state, now := range map[int]int{inRenewing: 1600, inRebinding: 1900} {
		p := reach(t, state)
		p.on(answer(isAck, 9), now)
		p.nothing(func() []api.LeaseAct { return p.on(answer(isAck, 9, secs(4000)), now+1) })
		p.nothing(func() []api.LeaseAct { return p.on(answer(isNak, 9), now+1) })
	}
}

// TestAnyMessages: R1: none panics, at messages of all kinds, in any state and at any time.
func TestAnyMessages(t *testing.T) {
	r := numbers()
	times := []int{math.MinInt, -1, 0, 1025, 1520, maxTime - 1, maxTime, maxTime + 1, math.MaxInt}
	for range 3000 {
		p := reach(t, r.IntN(manyReached))
		m := api.Bootp{Op: r.IntN(4), Xid: p.plain.xid, Yi: r.Uint32(), Si: r.Uint32(), Mac: station, File: "\x00\xff"}
		for range r.IntN(9) {
			codes := []int{1, 3, 50, 51, 53, 54, 58, 59, 67, 0, -1, 255, 256, math.MinInt, math.MaxInt}
			data := make([]byte, r.IntN(9))
			for i := range data {
				data[i] = byte(r.Uint32())
			}
			m.Options = append(m.Options, api.Option{Code: codes[r.IntN(len(codes))], Data: data})
		}
		p.on(m, times[r.IntN(len(times))])
		p.clash(r.Uint32(), times[r.IntN(len(times))])
	}
}
