package lease_test

import (
	"fmt"
	"strings"
	"testing"

	"slipway/api"
)

// giving is a message turned: whether it fits, and what it changes of the examples' lease.
type giving struct {
	what  string
	turns []turn
	fits  bool
	lease func(l *api.Lease)
}

func same(l *api.Lease) {}

func bad(what string, turns ...turn) giving { return giving{what: what, turns: turns} }

func good(what string, lease func(l *api.Lease), turns ...turn) giving {
	return giving{what, turns, true, lease}
}

func router(ip uint32) func(l *api.Lease) { return func(l *api.Lease) { l.Router = ip } }

func next(ip uint32) func(l *api.Lease) { return func(l *api.Lease) { l.Next = ip } }

func file(s string) func(l *api.Lease) { return func(l *api.Lease) { l.File = s } }

func server(ip uint32) func(l *api.Lease) {
	return func(l *api.Lease) { l.Server, l.Next = ip, ip }
}

// net is an address with its mask; the examples' router is not in it, or is itself.
func net(ip, mask uint32) func(l *api.Lease) {
	return func(l *api.Lease) { l.Ip, l.Mask, l.Router = ip, mask, 0 }
}

func givings() []giving {
	l := []giving{
		good("as in the examples", same),
		good("no type of messages is looked at within", same, behind(53, 6)),

		bad("54 of no bytes", with(54)),
		bad("54 of three", with(54, 10, 0, 0)),
		bad("54 of five", with(54, 10, 0, 0, 1, 0)),
		bad("54 of eight", with(54, 10, 0, 0, 1, 10, 0, 0, 1)),
		bad("54 missing", without(54)),
		bad("54 short, and a good one behind", with(54, 10, 0, 0), behind(54, 10, 0, 0, 1)),
		good("54 good, and a short one behind", same, behind(54, 10, 0, 0)),
		good("54 of another one", server(third), withLong(54, third)),
		good("54 beyond the net", server(0xdfffffff), withLong(54, 0xdfffffff)),

		bad("51 of no bytes", with(51)),
		bad("51 of three", with(51, 0, 0, 100)),
		bad("51 of five", with(51, 0, 0, 0, 100, 0)),
		bad("51 of 0", secs(0)),
		bad("51 missing", without(51)),
		bad("51 of 0, and a good one behind", secs(0), behind(51, 0, 0, 0, 9)),
		good("51 good, and another one behind", same, behind(51, 0, 0, 0, 0)),

		bad("1 of no bytes", with(1)),
		bad("1 of three", with(1, 255, 255, 255)),
		bad("1 of five", with(1, 255, 255, 255, 0, 0)),
		bad("1 short, and a good one behind", with(1, 255), behind(1, 255, 255, 255, 0)),
		good("1 good, and a short one behind", same, behind(1, 255)),
		bad("1 of no mask's bits", withLong(1, 0xff00ff00)),
		bad("1 of a mask turned round", withLong(1, 0x000000ff)),
		bad("1 of 0", withLong(1, 0)),
		good("1 missing", net(us, 0xffffffff), without(1)),
		good("1 of 32 ones", net(us, 0xffffffff), withLong(1, 0xffffffff)),
		good("1 of 31 ones", net(us, 0xfffffffe), withLong(1, 0xfffffffe)),
		good("1 of one one", func(l *api.Lease) { l.Mask = 0x80000000 }, withLong(1, 0x80000000)),

		bad("Yi of 0", withYi(0)),
		bad("Yi of the net's own address", withYi(0x0a000000)),
		bad("Yi of the net's broadcast address", withYi(0x0a0000ff)),
		good("Yi of a net's least host", net(0x0a000001, 0xffffff00), withYi(0x0a000001)),
		good("Yi of a net's greatest host", func(l *api.Lease) { l.Ip = 0x0a0000fe }, withYi(0x0a0000fe)),
		good("Yi of the own address of a net of 31 ones", net(0x0a000000, 0xfffffffe), withYi(0x0a000000), withLong(1, 0xfffffffe), without(3)),
		good("Yi of the net's own address, without a mask", net(0x0a000000, 0xffffffff), withYi(0x0a000000), without(1)),

		good("3 missing", router(0), without(3)),
		good("3 of no bytes", router(0), with(3)),
		good("3 of three", router(0), with(3, 10, 0, 0)),
		good("3 of five", same, with(3, 10, 0, 0, 1, 9)),
		good("3 of eight", router(0x0a000009), with(3, 10, 0, 0, 9, 10, 0, 0, 1)),
		good("3 short, and a good one behind", router(0), with(3, 10), behind(3, 10, 0, 0, 1)),
		good("3 beyond the net", router(0), withLong(3, 0x0a000101)),
		good("3 of eight, the first one beyond the net", router(0), with(3, 10, 0, 1, 1, 10, 0, 0, 1)),
		good("3 of 0", router(0), withLong(3, 0)),
		good("3 of the address itself", router(0), withLong(3, us)),
		good("3 of the net's own address", router(0), withLong(3, 0x0a000000)),
		good("3 of the net's broadcast address", router(0), withLong(3, 0x0a0000ff)),
		good("3 of everyone", router(0), withLong(3, everyone)),
		good("3 of the net's greatest host", router(0x0a0000fe), withLong(3, 0x0a0000fe)),

		good("Si of a host", next(0x0b000001), withSi(0x0b000001)),
		good("Si of the least host", next(0x01000000), withSi(0x01000000)),
		good("Si below a host", same, withSi(0x00ffffff)),
		good("Si of 127", same, withSi(0x7f000001)),
		good("Si of the greatest host", next(0xdfffffff), withSi(0xdfffffff)),
		good("Si above a host", same, withSi(0xe0000000)),
		good("Si of everyone", same, withSi(everyone)),

		good("67", file("f"), with(67, 'f')),
		good("67, and a File", file("f"), with(67, 'f'), withFile("g")),
		good("67 empty, and a File", same, with(67), withFile("g")),
		good("a File", file("g"), withFile("g")),
		good("67 twice", file("f"), with(67, 'f'), behind(67, 'h')),
		good("67 of any bytes", file("\x00\xff a"), with(67, 0, 255, ' ', 'a')),
		good("a long 67", file(strings.Repeat("x", 300)), with(67, []byte(strings.Repeat("x", 300))...)),
		good("Sname, Ci, Gi, Hops, Secs and All are not looked at", same, func(m *api.Bootp) {
			m.Sname, m.Ci, m.Gi, m.Hops, m.Secs, m.All = "s", third, third, 300, -5, true
		}),
	}
	for _, ip := range []uint32{0, 1, 0x00ffffff, 0x7f000001, 0xe0000001, everyone} {
		l = append(l, bad(fmt.Sprintf("54 of %08x", ip), withLong(54, ip)), bad(fmt.Sprintf("Yi of %08x", ip), withYi(ip)), bad(fmt.Sprintf("Yi of %08x without a mask", ip), withYi(ip), without(1)))
	}
	return l
}

// given is the lease that a fitting message gives, without its times.
func (g giving) given() api.Lease {
	l := offered()
	g.lease(&l)
	return l
}

// since lays the examples' times.
func since(l api.Lease, from int) api.Lease {
	l.From, l.T1, l.T2, l.Until = from, from+500, from+875, from+1000
	return l
}

// TestOfferFits: 'What fits', P18.4: which Offers are taken while LeaseSelecting, and what is offered by them.
func TestOfferFits(t *testing.T) {
	for _, g := range givings() {
		t.Run(g.what, func(t *testing.T) {
			p := reach(t, inSelecting)
			call := func() []api.LeaseAct { return p.on(answer(isOffer, 7, g.turns...), asked) }
			if !g.fits {
				p.nothing(call)
				return
			}
			l := g.given()
			p.saw(call(), requestOffer(station, 7, 2, l.Ip, l.Server))
			p.has(inRequesting, 7, l, 1, asked+30)
		})
	}
}

// TestAckFits: likewise of the Acks while LeaseRequesting, where the lease of the Ack counts, not that of the Offer.
func TestAckFits(t *testing.T) {
	for _, g := range givings() {
		t.Run(g.what, func(t *testing.T) {
			if !g.fits {
				p := reach(t, inRequesting)
				p.nothing(func() []api.LeaseAct { return p.on(answer(isAck, 7, g.turns...), 1025) })
				return
			}
			l := g.given()
			p := reach(t, inRequesting, withYi(l.Ip), withLong(54, l.Server), withLong(1, 0xffffffff), without(3), withFile("of the offer"))
			p.saw(p.on(answer(isAck, 7, g.turns...), 1025), probes(since(l, asked)))
			p.has(inProbing, 7, since(l, asked), 0, 1035)
			p.saw(p.tick(1035), adopts(since(l, asked)))
		})
	}
}

// TestAckFitsHeld: likewise while LeaseRenewing and LeaseRebinding, where the lease of the Ack takes the place of the held one.
func TestAckFitsHeld(t *testing.T) {
	for state, began := range map[int]int{inRenewing: 1520, inRebinding: 1895} {
		for _, g := range givings() {
			t.Run(g.what, func(t *testing.T) {
				if !g.fits {
					p := reach(t, state)
					p.nothing(func() []api.LeaseAct { return p.on(answer(isAck, 9, g.turns...), began+1) })
					return
				}
				l := g.given()
				p := reach(t, state, withYi(l.Ip), withLong(54, l.Server), withLong(1, 0xffffffff), without(3), withFile("of the first one"))
				p.saw(p.on(answer(isAck, 9, g.turns...), began+1), adopts(since(l, began)))
				p.has(inBound, 9, since(l, began), 0, began+500)
			})
		}
	}
}

// timing is seconds, and the numbers of 58 and 59 as bytes (nil: missing), and the ticks that come of them.
type timing struct {
	secs          uint32
	t1, t2        []byte
	to1, to2, all int
}

func timings() []timing {
	return []timing{
		{100, nil, nil, 500, 875, 1000},
		{1, nil, nil, 5, 8, 10},
		{2, nil, nil, 10, 17, 20},
		{3, nil, nil, 15, 26, 30},
		{7, nil, nil, 35, 61, 70},
		{8, nil, nil, 40, 70, 80},
		{1000, nil, nil, 5000, 8750, 10000},
		{4294967294, nil, nil, 21474836470, 37580963822, 42949672940},
		{4294967295, nil, nil, -1, -1, -1},
		{4294967295, four(10), four(20), -1, -1, -1},

		{100, four(10), four(20), 100, 200, 1000},
		{100, four(1), four(2), 10, 20, 1000},
		{100, four(98), four(99), 980, 990, 1000},
		{100, four(10), nil, 100, 875, 1000},
		{100, nil, four(60), 500, 600, 1000},
		{100, four(87), nil, 870, 875, 1000},
		{100, four(88), nil, 500, 875, 1000},
		{100, nil, four(51), 500, 510, 1000},
		{100, nil, four(50), 500, 875, 1000},
		{100, nil, four(49), 500, 875, 1000},
		{100, four(0), four(20), 500, 875, 1000},
		{100, four(0), nil, 500, 875, 1000},
		{100, four(10), four(0), 500, 875, 1000},
		{100, four(0), four(0), 500, 875, 1000},
		{100, four(20), four(10), 500, 875, 1000},
		{100, four(20), four(20), 500, 875, 1000},
		{100, four(20), four(21), 200, 210, 1000},
		{100, four(10), four(99), 100, 990, 1000},
		{100, four(10), four(100), 500, 875, 1000},
		{100, four(10), four(101), 500, 875, 1000},
		{100, four(4294967295), four(4294967295), 500, 875, 1000},
		{100, four(10), four(4294967295), 500, 875, 1000},
		{100, four(4294967294), four(4294967295), 500, 875, 1000},
		{4294967294, four(4294967292), four(4294967293), 42949672920, 42949672930, 42949672940},
		{4294967294, four(4294967293), four(4294967294), 21474836470, 37580963822, 42949672940},
		{1, four(1), nil, 5, 8, 10},
		{1, nil, four(1), 5, 8, 10},
		{2, four(1), nil, 10, 17, 20},
		{2, nil, four(1), 10, 17, 20},
		{3, four(1), four(2), 10, 20, 30},

		{100, []byte{}, []byte{}, 500, 875, 1000},
		{100, []byte{0, 0, 10}, four(60), 500, 600, 1000},
		{100, []byte{0, 0, 0, 10, 0}, four(60), 500, 600, 1000},
		{100, four(10), []byte{0, 0, 20}, 100, 875, 1000},
		{100, four(10), []byte{0, 0, 0, 20, 0}, 100, 875, 1000},
		{100, []byte{0, 0, 10}, []byte{0, 0, 20}, 500, 875, 1000},
	}
}

func (x timing) turns() []turn {
	l := []turn{secs(x.secs)}
	if x.t1 != nil {
		l = append(l, with(58, x.t1...))
	}
	if x.t2 != nil {
		l = append(l, with(59, x.t2...))
	}
	return l
}

func (x timing) lease(from int) api.Lease {
	l := offered()
	l.From = from
	l.T1, l.T2, l.Until = -1, -1, -1
	if x.all != -1 {
		l.T1, l.T2, l.Until = min(from+x.to1, maxTime), min(from+x.to2, maxTime), min(from+x.all, maxTime)
	}
	return l
}

// TestTimes: 'The lease's times', from the first Request on, and from the question for more time on; an offered lease has none.
func TestTimes(t *testing.T) {
	for _, x := range timings() {
		p := reach(t, inRequesting, x.turns()...)
		p.has(inRequesting, 7, offered(), 1, 1050)
		p.saw(p.on(answer(isAck, 7, x.turns()...), 1025), probes(x.lease(asked)))
		for state, began := range map[int]int{inRenewing: 1520, inRebinding: 1895} {
			p = reach(t, state)
			got := p.on(answer(isAck, 9, x.turns()...), began)
			p.saw(got, adopts(x.lease(began)))
			p.has(inBound, 9, x.lease(began), 0, x.lease(began).T1)
		}
	}
}

// TestTimesAreTheAcks: what an Offer says of times is forgotten.
func TestTimesAreTheAcks(t *testing.T) {
	p := reach(t, inRequesting, secs(5), withLong(58, 1), withLong(59, 2))
	p.saw(p.on(answer(isAck, 7), 1025), probes(theLease(asked)))
	p = reach(t, inRenewing, secs(1000), withLong(58, 5), withLong(59, 900))
	p.saw(p.on(answer(isAck, 9), 1075), adopts(theLease(1070)))
}

// TestTimesAtTwo: of several 58 and 59 the first one counts.
func TestTimesAtTwo(t *testing.T) {
	p := reach(t, inRequesting)
	got := p.on(answer(isAck, 7, behind(58, 0, 0, 1), behind(58, 0, 0, 0, 1), behind(59, 0, 0, 0, 60), behind(59, 0, 0, 0, 70)), 1025)
	l := theLease(asked)
	l.T2 = asked + 600
	p.saw(got, probes(l))
}
