package neigh_test

import (
	"math"
	"testing"

	"slipway/api"
)

// ops are the two that there are, and others.
func ops() []int {
	return []int{1, 2, 0, 3, -1, 257, 258, 65537, 65538, math.MinInt, math.MaxInt}
}

// TestOnOp: P11.3: of another Op nothing comes, be it for own or for another, from one that is asked for or known.
func TestOnOp(t *testing.T) {
	for _, op := range ops() {
		for _, dst := range []uint32{ours, net + 9} {
			p := newPair(t, stationA, 3)
			p.ask(ours, net+1, []byte("x"), 0)
			p.know(net+2, stationB, 0)
			for i, ip := range []uint32{net + 1, net + 2, net + 3} {
				m := api.Arp{Op: op, SrcMac: stationC, SrcIp: ip, DstIp: dst}
				got := p.on(m, ours, 1)
				var want []string
				if i == 0 && (op == 1 || op == 2) {
					want = append(want, packet(stationC, []byte("x")))
				}
				if op == 1 && dst == ours {
					want = append(want, answer(stationA, ours, stationC, ip))
				}
				p.saw(got, want...)
			}
			if op != 1 && op != 2 {
				p.has(isAsked(net+1, 10, 1), isKnown(net+2, stationB, 600))
			}
		}
	}
}

// TestOnGroup: P11.3: of a message from a group address nothing comes.
func TestOnGroup(t *testing.T) {
	for _, mac := range []api.Mac{{1}, {3}, {255}, {255, 255, 255, 255, 255, 255}, {1, 0, 0x5e, 0, 0, 1}, {0x81, 2, 2, 2, 2, 2}} {
		p := newPair(t, stationA, 4)
		p.ask(ours, net+1, []byte("x"), 0)
		p.know(net+2, stationB, 0)
		for _, ip := range []uint32{net + 1, net + 2, net + 3, 0} {
			p.saw(p.on(asks(mac, ip, ours), ours, 1))
			p.saw(p.on(told(mac, ip), ours, 1))
		}
		p.has(isAsked(net+1, 10, 1), isKnown(net+2, stationB, 600))
	}
}

// TestOnStation: P11.3: only the first byte's lowest bit makes a group; station zero and the own one are taken.
func TestOnStation(t *testing.T) {
	for _, mac := range []api.Mac{{}, stationA, {2}, {254, 255, 255, 255, 255, 255}, {0, 1, 1, 1, 1, 1}, {128}} {
		p := newPair(t, stationA, 2)
		p.ask(ours, net+1, []byte("x"), 0)
		p.saw(p.on(asks(mac, net+1, ours), ours, 1), packet(mac, []byte("x")), answer(stationA, ours, mac, net+1))
		p.has(isKnown(net+1, mac, 601))
	}
}

// TestOnNoHost: P11.3: an address that is no host's becomes no entry, and an entry of it does not become known; a question is answered still.
func TestOnNoHost(t *testing.T) {
	for _, ip := range []uint32{0, 1, 0x00ffffff, 0x7f000001, 0x7fffffff, 0xe0000000, 0xe0000001, 0xf0000000, 0xffffffff} {
		p := newPair(t, stationA, 2)
		p.saw(p.on(asks(stationB, ip, ours), ours, 1), answer(stationA, ours, stationB, ip))
		p.has()
		p.ask(ours, ip, []byte("x"), 2)
		p.saw(p.on(asks(stationB, ip, ours), ours, 3), answer(stationA, ours, stationB, ip))
		p.saw(p.on(told(stationB, ip), ours, 3))
		p.has(isAsked(ip, 12, 1))
	}
}

// TestOnHost: P11.3: the edges of what is a host's, from which an entry is made.
func TestOnHost(t *testing.T) {
	for _, ip := range []uint32{0x01000000, 0x0a000001, 0x7effffff, 0x80000000, 0xa9fe0001, 0xdfffffff} {
		p := newPair(t, stationA, 2)
		p.saw(p.on(asks(stationB, ip, ours), ours, 1), answer(stationA, ours, stationB, ip))
		p.has(isKnown(ip, stationB, 601))
	}
}

// TestOnFromOwn: P11.3: who says that it has the own address is not believed, but answered where it asks for it.
func TestOnFromOwn(t *testing.T) {
	p := newPair(t, stationA, 2)
	p.saw(p.on(asks(stationB, ours, ours), ours, 0), answer(stationA, ours, stationB, ours))
	p.saw(p.on(told(stationB, ours), ours, 0))
	p.has()
	p.ask(ours, ours, []byte("x"), 1)
	p.saw(p.on(told(stationB, ours), ours, 2))
	p.saw(p.on(asks(stationB, ours, net+9), ours, 2))
	p.has(isAsked(ours, 11, 1))
	p.saw(p.on(told(stationB, ours), net+44, 3), packet(stationB, []byte("x")))
	p.has(isKnown(ours, stationB, 603))
	p.saw(p.on(told(stationC, ours), ours, 4))
	p.has(isKnown(ours, stationB, 603))
}

// TestOnOwn0: P11.3: with own 0 nothing asks for own, not even what asks for 0; what is asked for becomes known all the same.
func TestOnOwn0(t *testing.T) {
	p := newPair(t, stationA, 3)
	p.ask(0, net+1, []byte("x"), 0)
	p.know(net+2, stationB, 0)
	p.saw(p.on(asks(stationC, net+3, 0), 0, 1))
	p.saw(p.on(asks(stationC, net+3, ours), 0, 1))
	p.saw(p.on(asks(stationC, 0, 0), 0, 1))
	p.has(isAsked(net+1, 10, 1), isKnown(net+2, stationB, 600))
	p.saw(p.on(asks(stationC, net+1, 0), 0, 2), packet(stationC, []byte("x")))
	p.saw(p.on(asks(stationC, net+2, 0), 0, 3))
	p.has(isKnown(net+1, stationC, 602), isKnown(net+2, stationC, 603))
}

// TestOnForAnother: P11.3: of one who asks for another nothing new is made, but an entry that is there becomes known.
func TestOnForAnother(t *testing.T) {
	p := newPair(t, stationA, 3)
	for _, dst := range []uint32{net + 9, 0, ours + 1, ours - 1, 0xffffffff, 0x0a0a0a0a} {
		p.saw(p.on(asks(stationB, net+1, dst), ours, 0))
		p.has()
	}
	p.ask(ours, net+1, []byte("x"), 1)
	p.saw(p.on(asks(stationB, net+1, net+9), ours, 2), packet(stationB, []byte("x")))
	p.saw(p.on(asks(stationC, net+1, net+9), ours, 5))
	p.has(isKnown(net+1, stationC, 605))
}

// TestOnTellIsNoQuestion: P11.3: an answer to own makes no new entry, and is not answered.
func TestOnTellIsNoQuestion(t *testing.T) {
	p := newPair(t, stationA, 3)
	p.saw(p.on(told(stationB, net+1), ours, 0))
	p.has()
	p.saw(p.on(api.Arp{Op: 2, SrcMac: stationB, SrcIp: net + 1, DstMac: stationC, DstIp: net + 5}, ours, 0))
	p.has()
}

// TestOnOwnAddresses: P11.3: own is what the call says, each time; the answer tells it.
func TestOnOwnAddresses(t *testing.T) {
	p := newPair(t, stationA, 8)
	for i, own := range []uint32{1, ours, 0x7f000001, 0xe0000001, 0xffffffff} {
		ip := net + 50 + uint32(i)
		p.saw(p.on(asks(stationB, ip, own), own, i), answer(stationA, own, stationB, ip))
		p.saw(p.on(asks(stationB, ip, own), own+1, i))
	}
}

// TestOnKnownAgain: P11.3: a known entry takes over the station of the last message, and lasts 600 from it on, over or not.
func TestOnKnownAgain(t *testing.T) {
	for _, now := range []int{0, 1, 599, 600, 601, 5000} {
		for _, m := range []api.Arp{told(stationC, net+1), asks(stationC, net+1, net+9), asks(stationC, net+1, ours)} {
			p := newPair(t, stationA, 1)
			p.know(net+1, stationB, 0)
			p.on(m, ours, now)
			p.has(isKnown(net+1, stationC, now+600))
			p.saw(p.ask(ours, net+1, []byte("x"), now+599), packet(stationC, []byte("x")))
		}
	}
}

// TestOnSendsOnce: P11.3, P11.6: what waited is sent by the first message alone, to its station, and waits no more.
func TestOnSendsOnce(t *testing.T) {
	p := newPair(t, stationA, 2)
	p.ask(ours, net+1, []byte("x"), 0)
	p.ask(ours, net+2, []byte("y"), 0)
	p.saw(p.on(told(stationB, net+1), ours, 1), packet(stationB, []byte("x")))
	p.saw(p.on(told(stationC, net+1), ours, 2))
	p.saw(p.on(asks(stationC, net+1, ours), ours, 3), answer(stationA, ours, stationC, net+1))
	p.saw(p.on(asks(stationC, net+2, ours), ours, 4), packet(stationC, []byte("y")), answer(stationA, ours, stationC, net+2))
	p.saw(p.on(asks(stationC, net+2, ours), ours, 5), answer(stationA, ours, stationC, net+2))
	p.saw(p.tick(9999))
	p.has()
}

// TestOnWhereAskedIsDue: P11.3: an answer is taken as long as the entry is there, whenever its question was due.
func TestOnWhereAskedIsDue(t *testing.T) {
	for _, now := range []int{9, 10, 11, 5000} {
		p := newPair(t, stationA, 1)
		p.ask(ours, net+1, []byte("x"), 0)
		p.saw(p.on(told(stationB, net+1), ours, now), packet(stationB, []byte("x")))
		p.has(isKnown(net+1, stationB, now+600))
	}
}

// TestOnRoom: P11.3: a new one needs room: a known entry goes for it; where all are asked it is not made, but answered.
func TestOnRoom(t *testing.T) {
	p := newPair(t, stationA, 2)
	p.ask(ours, net+1, []byte("x"), 0)
	p.know(net+2, stationB, 0)
	p.saw(p.on(asks(stationC, net+3, ours), ours, 1), answer(stationA, ours, stationC, net+3))
	p.has(isAsked(net+1, 10, 1), isKnown(net+3, stationC, 601))
	p.ask(ours, net+2, []byte("y"), 2)
	p.has(isAsked(net+1, 10, 1), isAsked(net+2, 12, 1))
	p.saw(p.on(asks(stationC, net+3, ours), ours, 3), answer(stationA, ours, stationC, net+3))
	p.has(isAsked(net+1, 10, 1), isAsked(net+2, 12, 1))
}

// TestOnMakesNoRoomInVain: P11.3: where no entry is made none goes: not for a message to another, not for one from own or from no host, not for one that has its entry.
func TestOnMakesNoRoomInVain(t *testing.T) {
	p := newPair(t, stationA, 2)
	p.know(net+1, stationB, 0)
	p.know(net+2, stationB, 1)
	p.on(told(stationC, net+3), ours, 2)
	p.on(asks(stationC, net+3, net+9), ours, 2)
	p.on(asks(stationC, ours, ours), ours, 2)
	p.on(asks(stationC, 0, ours), ours, 2)
	p.on(asks(stationC, net+3, ours), 0, 2)
	p.on(api.Arp{Op: 3, SrcMac: stationC, SrcIp: net + 3, DstIp: ours}, ours, 2)
	p.on(asks(api.Mac{1}, net+3, ours), ours, 2)
	p.has(isKnown(net+1, stationB, 600), isKnown(net+2, stationB, 601))
	p.on(asks(stationC, net+2, ours), ours, 3)
	p.has(isKnown(net+1, stationB, 600), isKnown(net+2, stationC, 603))
}

// TestOnLooksAtNoDstMac: P11.3: the station for which a message is said to be is not looked at.
func TestOnLooksAtNoDstMac(t *testing.T) {
	for _, mac := range []api.Mac{{}, stationA, stationC, {255, 255, 255, 255, 255, 255}} {
		p := newPair(t, stationA, 2)
		p.ask(ours, net+1, []byte("x"), 0)
		p.saw(p.on(api.Arp{Op: 2, SrcMac: stationB, SrcIp: net + 1, DstMac: mac}, ours, 1), packet(stationB, []byte("x")))
		p.saw(p.on(api.Arp{Op: 1, SrcMac: stationB, SrcIp: net + 2, DstMac: mac, DstIp: ours}, ours, 1), answer(stationA, ours, stationB, net+2))
	}
}
