package neigh_test

import (
	"math"
	"math/rand/v2"
	"slices"
	"strings"
	"testing"

	"slipway/api"
	"slipway/neigh"
)

// someAddress is mostly one of a few, so that calls meet.
func someAddress(r *rand.Rand) uint32 {
	if r.IntN(10) == 0 {
		odd := []uint32{0, 1, 0x7f000001, 0xe0000001, 0xffffffff, ours, 0xdfffffff}
		return odd[r.IntN(len(odd))]
	}
	return net + uint32(r.IntN(14))
}

func someStation(r *rand.Rand) api.Mac {
	list := []api.Mac{stationA, stationB, stationC, {}, {3, 1}, {4, 5, 6, 7, 8, 9}}
	return list[r.IntN(len(list))]
}

// someTime is mostly a little on, at times at an edge of an entry, far on, or behind.
func (p *pair) someTime(r *rand.Rand) int {
	now := p.plain.now
	at, some := p.plain.next()
	switch n := r.IntN(40); {
	case n == 0:
		return now + 590 + r.IntN(20)
	case n == 1:
		return now - r.IntN(100)
	case n == 2:
		return -r.IntN(5)
	case n < 12 && some:
		return at - 1 + r.IntN(3)
	}
	return now + r.IntN(4)
}

// step does any call, on both.
func (p *pair) step(r *rand.Rand) {
	p.t.Helper()
	now := p.someTime(r)
	switch n := r.IntN(100); {
	case n < 35:
		p.ask(someAddress(r), someAddress(r), someBytes(r, r.IntN(5)), now)
	case n < 70:
		m := api.Arp{Op: 1 + r.IntN(2), SrcMac: someStation(r), SrcIp: someAddress(r), DstMac: someStation(r), DstIp: ours}
		if r.IntN(20) == 0 {
			m.Op = r.IntN(5) - 1
		}
		if r.IntN(3) == 0 {
			m.DstIp = someAddress(r)
		}
		own := uint32(ours)
		if r.IntN(6) == 0 {
			own = someAddress(r)
		}
		p.on(m, own, now)
	case n < 99:
		p.tick(now)
	default:
		p.clear()
	}
}

// TestAnyCalls: P11.1 to P11.6: all calls in any order, in small caches and in great ones, from time 0 on and towards MaxTime.
func TestAnyCalls(t *testing.T) {
	r := draws()
	for _, most := range []int{1, 2, 3, 5, 8, 64} {
		for _, from := range []int{0, maxTime - 3000, maxTime - 40} {
			for range 20 {
				p := newPair(t, stationA, most)
				p.tick(from)
				for range 200 {
					p.step(r)
					if got := len(p.cache.Look()); got > most {
						t.Fatalf("%d entries of %d", got, most)
					}
				}
			}
		}
	}
}

// TestAnyCallsOfMany: P11.6: many addresses, all calls, at most so many entries, one an address.
func TestAnyCallsOfMany(t *testing.T) {
	r := draws()
	for _, most := range []int{7, 63, 64} {
		p := newPair(t, stationB, most)
		for range 3000 {
			ip := net + 256 + uint32(r.IntN(100))
			switch n := r.IntN(20); {
			case n < 9:
				p.ask(ours, ip, someBytes(r, 2), p.plain.now+r.IntN(2))
			case n < 18:
				p.on(asks(stationC, ip, ours), ours, p.plain.now+r.IntN(2))
			default:
				p.tick(p.plain.now + r.IntN(5))
			}
			list := p.cache.Look()
			if len(list) > most {
				t.Fatalf("%d entries of %d", len(list), most)
			}
			for i := 1; i < len(list); i++ {
				if list[i-1].Ip >= list[i].Ip {
					t.Fatalf("entries %v", list)
				}
			}
		}
	}
}

// fates is what becomes of packets that are told apart: which were sent and to whom, which may not be sent any more.
type fates struct {
	t     *testing.T
	sent  map[string]bool
	gone  map[string]bool
	waits map[uint32]string
	last  map[uint32]api.Mac // the station that the last message from an address told
}

// see looks at what a call answers.
func (f *fates) see(list []api.Send, ip uint32) {
	f.t.Helper()
	for _, s := range list {
		if s.Kind != api.KindIp {
			continue
		}
		name := string(s.Data)
		if f.sent[name] || f.gone[name] {
			f.t.Fatalf("%q is sent, but was sent or gone before", name)
		}
		if !strings.HasSuffix(name, " "+string(rune('a'+ip-net))) || s.Dst != f.last[ip] {
			f.t.Fatalf("%q is sent to %v by a call for %08x, of which %v was told", name, s.Dst, ip, f.last[ip])
		}
		f.sent[name] = true
		delete(f.waits, ip)
	}
}

// TestPacketsAreSentOnce: P11.6: at most once, to the station that the last message told; never behind it was pushed out, given up or cleared.
func TestPacketsAreSentOnce(t *testing.T) {
	r := draws()
	for round := range 60 {
		c := neigh.New(stationA, 1+round%6)
		f := &fates{t, map[string]bool{}, map[string]bool{}, map[uint32]string{}, map[uint32]api.Mac{}}
		now := 0
		for i := range 400 {
			now += r.IntN(6)
			ip := net + uint32(r.IntN(8))
			switch n := r.IntN(50); {
			case n < 20:
				name := strings.Join([]string{"packet", string(rune(0x100 + i)), string(rune('a' + ip - net))}, " ")
				if old := f.waits[ip]; old != "" {
					f.gone[old] = true
				}
				f.waits[ip] = name
				f.see(c.Ask(ours, ip, []byte(name), now), ip)
			case n < 35:
				mac := []api.Mac{stationB, stationC, {8}}[r.IntN(3)]
				f.last[ip] = mac
				f.see(c.On(api.Arp{Op: 1 + r.IntN(2), SrcMac: mac, SrcIp: ip, DstIp: ours - uint32(r.IntN(2))}, ours, now), ip)
			case n < 49:
				f.see(c.Tick(now), ip)
			default:
				c.Clear()
			}
			f.forget(c.Look())
		}
	}
}

// forget: what waits at an address without an asked entry is gone.
func (f *fates) forget(list []api.Neigh) {
	for ip, name := range f.waits {
		waits := slices.ContainsFunc(list, func(e api.Neigh) bool { return e.Ip == ip && e.Waiting })
		if !waits {
			f.gone[name] = true
			delete(f.waits, ip)
		}
	}
}

// TestQuestionsAreThree: P11.6: of a packet that waits at most three questions go out, ten ticks apart or more, however the time goes.
func TestQuestionsAreThree(t *testing.T) {
	r := draws()
	for range 300 {
		c := neigh.New(stationA, 1)
		now := r.IntN(100)
		c.Ask(ours, net+1, []byte("x"), now)
		asked := []int{now}
		for range 100 {
			now += r.IntN(8)
			if r.IntN(3) == 0 && len(c.Look()) == 1 {
				if list := c.Ask(ours, net+1, []byte("y"), now); len(list) != 0 {
					t.Fatalf("an Ask of an asked one: %v", list)
				}
			}
			if list := c.Tick(now); len(list) == 1 {
				asked = append(asked, now)
			}
		}
		if len(asked) != 3 || asked[1]-asked[0] < 10 || asked[2]-asked[1] < 10 {
			t.Errorf("questions at %v", asked)
		}
	}
}

// TestAnyArguments: R1: none panics, at arguments of all kinds.
func TestAnyArguments(t *testing.T) {
	r := draws()
	p := newPair(t, stationA, 3)
	times := []int{math.MinInt, -1, 0, 1, maxTime - 1, maxTime, maxTime + 1, math.MaxInt}
	for range 2000 {
		now := times[r.IntN(len(times))]
		p.ask(r.Uint32(), r.Uint32(), someBytes(r, r.IntN(3)), now)
		m := api.Arp{Op: r.IntN(4), SrcIp: r.Uint32(), DstIp: r.Uint32()}
		copy(m.SrcMac[:], someBytes(r, 6))
		p.on(m, m.DstIp, now)
		p.on(m, r.Uint32(), now)
		p.tick(now)
	}
}

// TestTwoCaches: R6: what is done to one is not seen in another.
func TestTwoCaches(t *testing.T) {
	r := draws()
	a, b := newPair(t, stationA, 3), newPair(t, stationB, 5)
	for i := range 3000 {
		if i%2 == 0 {
			a.step(r)
		} else {
			b.step(r)
		}
		a.look("a call on another cache")
		b.look("a call on another cache")
	}
	a.clear()
	b.look("another one's Clear")
}

// TestSameCallsSameAnswers: R6: the order of a map is not seen: the same calls have the same answers, each time.
func TestSameCallsSameAnswers(t *testing.T) {
	for range 20 {
		r := draws()
		p := newPair(t, stationA, 6)
		for range 200 {
			p.step(r)
		}
	}
}
