package neigh_test

import (
	"bytes"
	"testing"

	"slipway/api"
)

// TestAskKnown: P11.2: to a known station, up to Until - 1; from Until on the entry goes, and it is asked for anew.
func TestAskKnown(t *testing.T) {
	for _, most := range []int{1, 2, 64} {
		for _, now := range []int{0, 1, 598, 599, 600, 601, 9999, maxTime} {
			for _, src := range []uint32{ours, 0, 77} {
				p := newPair(t, stationA, most)
				p.know(net+1, stationB, 0)
				got := p.ask(src, net+1, []byte("x"), now)
				if now < 600 {
					p.saw(got, packet(stationB, []byte("x")))
					p.has(isKnown(net+1, stationB, 600))
				} else {
					p.saw(got, question(stationA, src, net+1))
					p.has(isAsked(net+1, min(now+10, maxTime), 1))
				}
			}
		}
	}
}

// TestAskOverIsItsOwnRoom: P11.2: the entry whose time is over goes itself, however full the cache is, and no other one goes for it.
func TestAskOverIsItsOwnRoom(t *testing.T) {
	p := newPair(t, stationA, 3)
	p.know(net+1, stationB, 0)
	p.know(net+3, stationB, 5)
	p.know(net+2, stationB, 9)
	p.saw(p.ask(ours, net+2, []byte("x"), 609), question(stationA, ours, net+2))
	p.has(isKnown(net+1, stationB, 600), isAsked(net+2, 619, 1), isKnown(net+3, stationB, 605))
}

// TestAskLeavesOthersThatAreOver: P11.2: of those whose time is over the one that is asked for goes, no other.
func TestAskLeavesOthersThatAreOver(t *testing.T) {
	p := newPair(t, stationA, 4)
	p.know(net+1, stationB, 0)
	p.know(net+2, stationC, 0)
	p.ask(ours, net+3, nil, 700)
	p.ask(ours, net+2, nil, 700)
	p.has(isKnown(net+1, stationB, 600), isAsked(net+2, 710, 1), isAsked(net+3, 710, 1))
}

// TestAskAsked: P11.2: the packet takes the place of the one that waited, whatever the time is; Until and what has gone out stay; questions go from the new src.
func TestAskAsked(t *testing.T) {
	for _, now := range []int{0, 5, 9, 10, 11, 500} {
		p := newPair(t, stationA, 1)
		p.saw(p.ask(ours, net+1, []byte("first"), 0), question(stationA, ours, net+1))
		p.saw(p.ask(99, net+1, []byte("second"), now))
		p.has(isAsked(net+1, 10, 1))
		p.saw(p.tick(now+10), question(stationA, 99, net+1))
		p.saw(p.ask(0, net+1, []byte("third"), now+11))
		p.has(isAsked(net+1, now+20, 2))
		p.saw(p.tick(now+20), question(stationA, 0, net+1))
		p.saw(p.on(told(stationB, net+1), ours, now+21), packet(stationB, []byte("third")))
	}
}

// TestAskAskedAsTheThird: P11.2, P11.4: a packet that comes behind three questions waits for the answer of the last one, and goes with its entry.
func TestAskAskedAsTheThird(t *testing.T) {
	p := newPair(t, stationA, 1)
	p.ask(ours, net+1, []byte("first"), 0)
	p.tick(10)
	p.tick(20)
	p.saw(p.ask(ours, net+1, []byte("second"), 30))
	p.has(isAsked(net+1, 30, 3))
	p.saw(p.tick(30))
	p.has()
	p.saw(p.on(told(stationB, net+1), ours, 31))
}

// TestAskAnyAddress: P11.2: an address that is no host's is asked for as others are; so is the own one.
func TestAskAnyAddress(t *testing.T) {
	list := []uint32{0, 1, ours, 0x7f000001, 0xe0000001, 0xffffffff}
	p := newPair(t, stationA, len(list))
	for _, ip := range list {
		p.saw(p.ask(ours, ip, []byte{1}, 0), question(stationA, ours, ip))
	}
	var want []string
	for _, ip := range list {
		want = append(want, question(stationA, ours, ip))
	}
	p.saw(p.tick(10), want...)
	p.tick(20)
	p.saw(p.tick(30))
	p.has()
}

// TestAskAnyPacket: P11.2: any bytes wait and are sent as they are, none and very many too; a packet without bytes waits as well.
func TestAskAnyPacket(t *testing.T) {
	r := draws()
	for _, data := range [][]byte{nil, {}, {0}, someBytes(r, 1500), someBytes(r, 1501), someBytes(r, 100000)} {
		p := newPair(t, stationA, 1)
		p.ask(ours, net+1, data, 0)
		p.has(isAsked(net+1, 10, 1))
		p.saw(p.on(told(stationB, net+1), ours, 1), packet(stationB, data))
		p.has(isKnown(net+1, stationB, 601))
		p.saw(p.ask(ours, net+1, data, 2), packet(stationB, data))
	}
}

// TestAskNothingTakesThePlace: P11.2: a packet without bytes pushes out one that has some.
func TestAskNothingTakesThePlace(t *testing.T) {
	p := newPair(t, stationA, 1)
	p.ask(ours, net+1, []byte("first"), 0)
	p.ask(ours, net+1, nil, 1)
	p.saw(p.on(told(stationB, net+1), ours, 2), packet(stationB, nil))
}

// TestAskNoRoom: P11.2: where all are asked there is no room: nothing changes but the time.
func TestAskNoRoom(t *testing.T) {
	p := newPair(t, stationA, 2)
	p.ask(ours, net+1, []byte("a"), 0)
	p.ask(ours, net+3, []byte("b"), 4)
	for _, ip := range []uint32{net, net + 2, net + 4} {
		p.saw(p.ask(77, ip, []byte("c"), 8))
		p.has(isAsked(net+1, 10, 1), isAsked(net+3, 14, 1))
	}
	p.saw(p.on(told(stationB, net+2), ours, 8))
	p.saw(p.tick(14), question(stationA, ours, net+1), question(stationA, ours, net+3))
	p.saw(p.on(told(stationB, net+1), ours, 15), packet(stationB, []byte("a")))
	p.saw(p.on(told(stationB, net+3), ours, 15), packet(stationB, []byte("b")))
}

// TestAskNoRoomBehindTheirTime: P11.2: asked entries don't go for another one, not even once they are due.
func TestAskNoRoomBehindTheirTime(t *testing.T) {
	p := newPair(t, stationA, 1)
	p.ask(ours, net+1, []byte("a"), 0)
	p.tick(10)
	p.tick(20)
	p.saw(p.ask(ours, net+2, []byte("b"), 999))
	p.has(isAsked(net+1, 30, 3))
	p.saw(p.tick(0))
	p.has()
	p.saw(p.ask(ours, net+2, []byte("b"), 0), question(stationA, ours, net+2))
	p.has(isAsked(net+2, 1009, 1))
}

// TestRoomOfTheLeastUntil: P11.2, P11.3: the known entry with the least Until goes, be its time over or not, wherever it stands among the addresses; an asked one stays though its Until is less.
func TestRoomOfTheLeastUntil(t *testing.T) {
	for _, now := range []int{12, 650} {
		for least := range uint32(4) {
			p, other := newPair(t, stationA, 5), newPair(t, stationA, 5)
			for _, x := range []*pair{p, other} {
				x.ask(ours, net+9, []byte("w"), 0)
				x.know(net+least, stationB, 1)
				for i := range uint32(4) {
					if i != least {
						x.know(net+i, stationC, 10-int(i))
					}
				}
			}
			p.saw(p.ask(ours, net+7, []byte("x"), now), question(stationA, ours, net+7))
			other.saw(other.on(asks(stationB, net+7, ours), ours, now), answer(stationA, ours, stationB, net+7))
			for _, x := range []*pair{p, other} {
				for _, e := range x.cache.Look() {
					if e.Ip == net+least {
						t.Errorf("%d: the one with the least Until is there", least)
					}
				}
				if got := len(x.cache.Look()); got != 5 {
					t.Errorf("%d: %d entries", least, got)
				}
			}
		}
	}
}

// TestRoomOfTheLeastAddress: P11.2, P11.3: of several with the least Until the one with the least address goes, time and again.
func TestRoomOfTheLeastAddress(t *testing.T) {
	for range 20 { // a map's order is another one each time
		p := newPair(t, stationA, 8)
		for i := range uint32(8) {
			p.know(net+20+(i*5+3)%8, stationB, 0)
		}
		for i := range uint32(4) {
			p.ask(ours, net+i, nil, 1)
			p.on(asks(stationC, net+50+i, ours), ours, 1)
		}
		want := []api.Neigh{}
		for i := range uint32(4) {
			want = append(want, isAsked(net+i, 11, 1))
		}
		for i := range uint32(4) {
			want = append(want, isKnown(net+50+i, stationC, 601))
		}
		p.has(want...)
	}
}

// TestRoomAtAddress0: P11.2: an entry of the address 0 is one as others are, where one must go.
func TestRoomAtAddress0(t *testing.T) {
	p := newPair(t, stationA, 2)
	p.ask(ours, 0, []byte("z"), 0)
	p.know(net+1, stationB, 3)
	p.saw(p.ask(ours, net+2, nil, 4), question(stationA, ours, net+2))
	p.has(isAsked(0, 10, 1), isAsked(net+2, 14, 1))
}

// TestAskBehindAnOver: P11.2, P11.6: what was known is not used any more once it was asked for anew.
func TestAskBehindAnOver(t *testing.T) {
	p := newPair(t, stationA, 1)
	p.know(net+1, stationB, 0)
	p.ask(ours, net+1, []byte("a"), 600)
	p.saw(p.ask(ours, net+1, []byte("b"), 601))
	p.saw(p.on(told(stationC, net+1), ours, 602), packet(stationC, []byte("b")))
	p.saw(p.ask(ours, net+1, []byte("c"), 603), packet(stationC, []byte("c")))
}

// TestAnswersHaveTheirBytes: P11.2, P11.3: kinds and stations of what is sent, field by field.
func TestAnswersHaveTheirBytes(t *testing.T) {
	p := newPair(t, stationA, 1)
	s := p.cache.Ask(ours, net+1, []byte("p"), 0)
	if len(s) != 1 || s[0].Kind != 0x0806 || s[0].Dst != (api.Mac{255, 255, 255, 255, 255, 255}) || len(s[0].Data) != 28 {
		t.Errorf("Ask: %v", s)
	}
	s = p.cache.On(asks(stationB, net+1, ours), ours, 0)
	if len(s) != 2 || s[0].Kind != 0x0800 || s[0].Dst != stationB || !bytes.Equal(s[0].Data, []byte("p")) {
		t.Fatalf("On: %v", s)
	}
	if s[1].Kind != 0x0806 || s[1].Dst != stationB || len(s[1].Data) != 28 || s[1].Data[7] != 2 {
		t.Errorf("On: %v", s)
	}
}
