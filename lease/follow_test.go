package lease_test

import (
	"math/rand/v2"
	"slices"
	"testing"

	"slipway/api"
	"slipway/dice"
	"slipway/lease"
)

// someAddress is mostly the one that is given.
func someAddress(r *rand.Rand) uint32 {
	odd := []uint32{us, us, us, us, us, us, us + 1, 0, 0x7f000001, 0x0a000000, 0x0a0000ff, everyone, them}
	return odd[r.IntN(len(odd))]
}

// someSecs are short mostly, so that all times are met.
func someSecs(r *rand.Rand) uint32 {
	odd := []uint32{0, 1, 2, 3, 5, 10, 60, 100, 200, 300, 1000, 86400, 4294967294, 4294967295}
	return odd[r.IntN(len(odd))]
}

// someMessage is mostly one that fits the open question, of any type.
func (p *pair) someMessage(r *rand.Rand) api.Bootp {
	kinds := []byte{isOffer, isAck, isAck, isAck, isNak}
	switch p.plain.state {
	case inSelecting:
		kinds = append(kinds, isOffer, isOffer, isOffer, isOffer)
	case inInit, inProbing, inBound:
		kinds = append(kinds, 0, 1, 3, 4, 7, 8, 255)
	}
	m := answer(kinds[r.IntN(len(kinds))], p.plain.xid, secs(someSecs(r)))
	m.Mac = p.plain.own
	for range r.IntN(3) {
		somehow(r)(&m)
	}
	return m
}

// somehow turns a message in one of many ways, most of which it still fits by.
func somehow(r *rand.Rand) turn {
	short := []byte{10, 0, 0, 1, 10, 0, 0, 9}[:r.IntN(9)]
	ways := []turn{
		with(54, short...), with(51, short...), with(1, short...), with(3, short...), with(58, short...), with(59, short...), with(67, short...),
		without(54), without(51), without(1), without(3), without(53),
		withLong(54, third), withLong(54, someAddress(r)), withLong(1, 0xfffffffe), withLong(1, 0xff00ff00), withLong(1, 0xff000000), withLong(3, someAddress(r)),
		withLong(58, uint32(r.IntN(60))), withLong(59, uint32(r.IntN(100))), withLong(58, someSecs(r)), withLong(59, someSecs(r)),
		withYi(someAddress(r)), withSi(someAddress(r)), withFile("boot"),
		func(m *api.Bootp) { m.Op = r.IntN(4) }, func(m *api.Bootp) { m.Mac[r.IntN(6)]++ }, func(m *api.Bootp) { m.Xid++ },
	}
	return ways[r.IntN(len(ways))]
}

// someTime is mostly a little on, at times at an edge of what is due, far on, or behind.
func (p *pair) someTime(r *rand.Rand) int {
	now, l := p.plain.now, p.plain.lease
	switch n := r.IntN(60); {
	case n == 0:
		return now - r.IntN(300)
	case n == 1:
		return now + r.IntN(3000)
	case n == 2:
		return -r.IntN(5)
	case n < 6 && l.Until > 0:
		edges := []int{l.T1, l.T2, l.Until, l.T2, l.Until}
		return edges[r.IntN(len(edges))] - 1 + r.IntN(2)
	case n < 30 && p.plain.due != -1:
		return p.plain.due - 1 + r.IntN(3)
	}
	return now + r.IntN(4)
}

// step does any call, on both.
func (p *pair) step(r *rand.Rand) []api.LeaseAct {
	p.t.Helper()
	now := p.someTime(r)
	switch n := r.IntN(100); {
	case n < 2 || p.plain.due == -1 && n < 30:
		return p.start(now)
	case n < 50:
		return p.on(p.someMessage(r), now)
	case n < 54:
		return p.clash(someAddress(r), now)
	}
	return p.tick(now)
}

func someDraws(r *rand.Rand) []uint32 {
	l := make([]uint32, r.IntN(120))
	for i := range l {
		l[i] = r.Uint32()
		if r.IntN(2) == 0 {
			l[i] %= 3 // so that Xids come again
		}
	}
	return l
}

// TestAnyCalls: P18.1 to P18.6: all calls in any order, with all kinds of messages, from time 0 on and towards MaxTime.
func TestAnyCalls(t *testing.T) {
	r := numbers()
	met := map[int]int{}
	for _, from := range []int{0, 12345, maxTime - 30000, maxTime - 900} {
		for range 300 {
			p := newPair(t, someDraws(r)...)
			p.tick(from)
			for range 150 {
				p.step(r)
				met[p.client.State().State]++
			}
		}
	}
	for state := range rested {
		if met[state] < 500 {
			t.Errorf("state %d was met %d times", state, met[state])
		}
	}
}

// TestTickAheadOfNext: P18.8: wherever it stands, Tick ahead of Next does nothing and uses no draw; at it there comes a later one, or none.
func TestTickAheadOfNext(t *testing.T) {
	r := numbers()
	for range 300 {
		p := newPair(t, someDraws(r)...)
		p.tick([]int{0, maxTime - 20000}[r.IntN(2)])
		for range 100 {
			p.step(r)
			at, some := p.client.Next()
			if !some {
				p.nothing(func() []api.LeaseAct { return p.tick(p.plain.now + r.IntN(1000)) })
				continue
			}
			if at > p.plain.now {
				p.nothing(func() []api.LeaseAct { return p.tick(p.plain.now + r.IntN(at-p.plain.now)) })
			}
			if r.IntN(4) == 0 {
				p.tick(at)
				if later, some := p.client.Next(); some && later <= at && at != maxTime {
					t.Fatalf("Next %d behind a Tick at %d", later, at)
				}
			}
		}
	}
}

// sight is who looks at the acts alone: what was told, and which lease is held by them.
type sight struct {
	t    *testing.T
	own  api.Mac
	now  int
	xid  uint32
	acks map[uint32]map[uint32]bool // by the question's Xid: the addresses that Acks gave
	held api.Lease
	has  bool
}

func (s *sight) told(m api.Bootp, xid uint32) {
	kind, _ := firstOf(m.Options, 53)
	if m.Op != 2 || len(kind) != 1 || kind[0] != isAck || m.Mac != s.own || m.Xid != xid {
		return
	}
	if s.acks[xid] == nil {
		s.acks[xid] = map[uint32]bool{}
	}
	s.acks[xid][m.Yi] = true
}

// see holds a call's acts against P18.7; xid is that of the question that was open ahead of them.
func (s *sight) see(l []api.LeaseAct, xid uint32) {
	s.t.Helper()
	for _, a := range l {
		switch a.Kind {
		case 1:
			if a.From != a.Msg.Ci {
				s.t.Fatalf("from %08x goes %+v", a.From, a.Msg)
			}
			if a.From != 0 && (!s.has || a.From != s.held.Ip || s.held.Until != -1 && s.now >= s.held.Until) {
				s.t.Fatalf("at %d from %08x; held %v: %+v", s.now, a.From, s.has, s.held)
			}
		case 3:
			if !s.has && !s.acks[xid][a.Lease.Ip] {
				s.t.Fatalf("%08x is adopted, but no Ack for %d gave it", a.Lease.Ip, xid)
			}
			if s.has && a.Lease.Ip != s.held.Ip {
				s.t.Fatalf("%08x is adopted while %08x is held", a.Lease.Ip, s.held.Ip)
			}
			if !routeTakes(a.Lease.Ip, a.Lease.Mask, a.Lease.Router) {
				s.t.Fatalf("no table takes %+v", a.Lease)
			}
			s.held, s.has = a.Lease, true
		case 4:
			if !s.has || a.Lease != s.held {
				s.t.Fatalf("%+v is dropped; held %v: %+v", a.Lease, s.has, s.held)
			}
			s.held, s.has = api.Lease{}, false
		}
	}
}

// agrees holds the client's own word on what is held against what was seen.
func (s *sight) agrees(c *lease.Client) {
	s.t.Helper()
	if l, held := c.Held(); held != s.has || l != s.held {
		s.t.Fatalf("Held: %+v, %v; seen %+v, %v", l, held, s.held, s.has)
	}
}

// TestHeldOnly: P18.7, P18.9: told by acts alone: no message from an address that isn't held, no lease that no Ack gave, none that no table takes.
func TestHeldOnly(t *testing.T) {
	r := numbers()
	held := 0
	for range 400 {
		p := newPair(t, someDraws(r)...)
		s := &sight{t: t, own: station, acks: map[uint32]map[uint32]bool{}}
		for range 200 {
			now := p.someTime(r)
			s.now = min(max(s.now, now), maxTime)
			// What is due is done apart, so that the question that is open ahead of the next call is known.
			xid := p.client.State().Xid
			s.see(p.tick(now), xid)
			s.agrees(p.client)
			xid = p.client.State().Xid
			switch n := r.IntN(60); {
			case n == 0 || p.client.State().Due == -1:
				s.see(p.start(now), xid)
			case n < 30:
				m := p.someMessage(r)
				s.told(m, xid)
				s.see(p.on(m, now), xid)
			case n < 32:
				s.see(p.clash(someAddress(r), now), xid)
			}
			s.agrees(p.client)
			if s.has {
				held++
			}
		}
	}
	if held < 5000 {
		t.Errorf("a lease was held behind %d calls alone", held)
	}
}

// TestSameCallsSameAnswers: R6: the same calls have the same answers, each time.
func TestSameCallsSameAnswers(t *testing.T) {
	var first []string
	for i := range 5 {
		r := numbers()
		p := newPair(t, someDraws(r)...)
		var all []string
		for range 300 {
			all = append(all, texts(p.step(r))...)
		}
		if i == 0 {
			first = all
		}
		if !slices.Equal(all, first) {
			t.Fatal("the same calls had other answers")
		}
	}
}

// TestTicksBetween: P18.8: a client that is ticked at every tick tells the same as one that is ticked at Next alone.
func TestTicksBetween(t *testing.T) {
	r := numbers()
	for range 40 {
		draws := someDraws(r)
		a, b := lease.New(station), lease.New(station)
		da, db := dice.New(draws), dice.New(draws)
		var la, lb []api.LeaseAct
		la, lb = a.Start(0, da), b.Start(0, db)
		for now := 1; now < 4000; now++ {
			la = append(la, a.Tick(now, da)...)
			if at, some := b.Next(); some && at == now {
				lb = append(lb, b.Tick(now, db)...)
			}
			if r.IntN(20) == 0 {
				kind := []byte{isOffer, isAck, isAck, isNak}[r.IntN(4)]
				if kind == isNak && r.IntN(4) > 0 {
					kind = isAck
				}
				m := answer(kind, a.State().Xid, secs(1+r.Uint32N(60)))
				la = append(la, a.On(them, m, now, da)...)
				lb = append(lb, b.On(them, m, now, db)...)
			}
		}
		if !slices.Equal(texts(la), texts(lb)) || a.State() != b.State() || da.Left() != db.Left() {
			t.Fatal("ticks between change what is told")
		}
	}
}
