package nic_test

import (
	"math"
	"testing"

	"slipway/api"
)

// frameTo is one from another station to dst, told from others by x.
func frameTo(dst api.Mac, x byte) []byte { return raw(dst, stationB, 2048, 60, x) }

// TestPollBudgets: P5.2: none below 1, as many as are allowed, never more than there are.
func TestPollBudgets(t *testing.T) {
	for _, there := range []int{0, 1, 2, 7, 8} {
		for _, budget := range []int{math.MinInt, math.MinInt32, -1, 0, 1, 2, 6, 7, 8, 9, 64, 65, 1 << 32, math.MaxInt} {
			p := newPair(t, 8, 1, stationA)
			for i := range there {
				p.arrive(frameTo(stationA, byte(i)))
			}
			if got := len(p.poll(budget)); got != max(0, min(budget, there)) {
				t.Errorf("Poll(%d) of %d frames: %d", budget, there, got)
			}
			p.look("Poll")
			p.poll(9)
			p.look("the rest")
		}
	}
}

// TestBudgetCountsDescriptors: P5.2: a frame that is thrown away takes of the budget too.
func TestBudgetCountsDescriptors(t *testing.T) {
	for budget := range 7 {
		p := newPair(t, 6, 1, stationA)
		for i := range 6 {
			p.arrive(frameTo([]api.Mac{stationB, stationA}[i%2], byte(i)))
		}
		if got := len(p.poll(budget)); got != budget/2 {
			t.Errorf("Poll(%d): %d frames", budget, got)
		}
		p.look("Poll")
	}
}

// TestPollWhoseFrame: P5.2: which frames are for the station: by whom they are for, and by who sent them.
func TestPollWhoseFrame(t *testing.T) {
	macs := []api.Mac{{}, stationA, stationB, group, everyone, {2, 0, 0, 0, 0, 9}, {3, 0, 0, 0, 0, 10}, {2, 0, 0, 0, 1, 10}, {255, 255, 255, 255, 255, 254}, {254, 255, 255, 255, 255, 255}}
	p := newPair(t, 1, 1, stationA)
	for _, dst := range macs {
		for _, src := range macs {
			p.arrive(raw(dst, src, 2048, 60, 7))
			want := (dst == stationA || dst == everyone) && src[0]%2 == 0
			if got := len(p.poll(1)) == 1; got != want {
				t.Errorf("a frame from %v to %v: taken %v", src, dst, got)
			}
			p.look("Poll")
		}
	}
}

// TestPollLengths: P5.2: all lengths that a card takes; what Open refuses is thrown away.
func TestPollLengths(t *testing.T) {
	p := newPair(t, 1, 1, stationA)
	for size := 1; size <= 1515; size++ {
		for _, dst := range []api.Mac{stationA, stationB, everyone} {
			took := p.arrive(raw(dst, stationB, 2048, size, byte(size)))
			want := took && size >= 60 && dst != stationB
			if got := len(p.poll(1)) == 1; got != want {
				t.Errorf("a frame of %d bytes to %v: taken %v", size, dst, got)
			}
		}
		p.look("a length")
	}
}

// TestPollKinds: P5.2: all kinds of 16 bits; what Open refuses is thrown away.
func TestPollKinds(t *testing.T) {
	p := newPair(t, 1, 1, stationA)
	for kind := range 65536 {
		p.arrive(raw(stationA, stationB, kind, 60, 1))
		l := p.poll(1)
		if got := len(l) == 1; got != (kind >= 1536) || got && l[0].Kind != kind {
			t.Errorf("a frame of the kind %d: %+v", kind, l)
		}
	}
	p.look("all kinds")
}

// TestPollTellsAsOpenDoes: P5.2: all bytes behind the head are Data, zeros at their end too.
func TestPollTellsAsOpenDoes(t *testing.T) {
	p := newPair(t, 2, 1, stationA)
	p.arrive(raw(stationA, stationB, 2054, 60, 0))
	p.arrive(raw(everyone, stationB, 65535, 1514, 0))
	l := p.poll(2)
	if len(l) != 2 || len(l[0].Data) != 46 || len(l[1].Data) != 1500 || l[1].Dst != everyone || l[0].Src != stationB {
		t.Errorf("%+v", l)
	}
}

// TestPollGivesBack: P5.2, P5.5: each descriptor that was looked at is the card's again, whether its frame was taken or thrown, and no other is.
func TestPollGivesBack(t *testing.T) {
	for _, size := range []int{1, 2, 3, 63, 64} {
		p := newPair(t, size, 1, stationA)
		for i := range 3 * size {
			for p.arrive(frameTo([]api.Mac{stationA, stationB, everyone, group}[i%4], byte(i))) {
			}
			p.poll(1)
			p.look("Poll(1) of a full ring")
			if !p.arrive(frameTo(stationA, 99)) || p.arrive(frameTo(stationA, 98)) {
				t.Errorf("a ring of %d: behind Poll(1) there is room for one", size)
			}
		}
		p.poll(size)
		p.look("Poll of all")
		p.poll(1)
		p.look("Poll of none")
	}
}

// TestPollLeavesTheTxRing: P5.2: what is to leave is no matter of Poll's, nor what came a matter of Send's.
func TestPollLeavesTheTxRing(t *testing.T) {
	p := newPair(t, 2, 2, stationA)
	for i := range 5 {
		p.send(api.Send{Dst: stationA, Kind: 2048, Data: []byte{byte(i)}})
		if l := p.poll(2); len(l) != 0 {
			t.Errorf("Poll: %+v, of what the station itself sends", l)
		}
		p.look("Poll")
	}
	p.arrive(frameTo(stationA, 1))
	p.send(api.Send{Dst: stationA, Kind: 2048})
	p.look("Send")
	p.poll(1)
	p.look("Poll")
}

// TestOwnFramesComeBack: P5.2: whether the station itself sent a frame is not looked at.
func TestOwnFramesComeBack(t *testing.T) {
	p := newPair(t, 2, 2, stationA)
	p.send(api.Send{Dst: stationA, Kind: 2048, Data: []byte{1}})
	p.send(api.Send{Dst: everyone, Kind: 2048, Data: []byte{2}})
	p.arrive(p.depart())
	p.arrive(p.depart())
	if l := p.poll(2); len(l) != 2 || l[0].Src != stationA || l[1].Dst != everyone {
		t.Errorf("%+v", l)
	}
}
