package nic_test

import (
	"testing"

	"slipway/api"
	"slipway/card"
	"slipway/nic"
)

// TestErrorNumbers: the section Errors.
func TestErrorNumbers(t *testing.T) {
	n := nic.New(card.New(1, 1), stationA)
	n.Send(api.Send{Dst: stationB, Kind: 2054})
	_, kind := n.Send(api.Send{Dst: stationB, Kind: 1})
	_, long := n.Send(api.Send{Dst: stationB, Kind: 2054, Data: filled(1501, 1)})
	_, full := n.Send(api.Send{Dst: stationB, Kind: 2054})
	if got := [3]api.Errno{kind, long, full}; got != [3]api.Errno{30, 2, 3} {
		t.Errorf("ErrKind, ErrLong, ErrFull: %v", got)
	}
}

// TestExample: the chapter's table.
func TestExample(t *testing.T) {
	f, g := raw(stationA, stationB, 2054, 60, 1), raw(stationB, stationA, 2054, 60, 2)
	p := newPair(t, 2, 2, stationA)
	p.poll(9)
	if !p.arrive(g) || !p.arrive(f) || p.arrive(f) {
		t.Error("Arrive(G), Arrive(F), Arrive(F)")
	}
	if len(p.poll(1)) != 0 || len(p.poll(0)) != 0 || len(p.poll(9)) != 1 {
		t.Error("Poll(1), Poll(0), Poll(9)")
	}
	p.look("G and F")
	if !p.arrive(f[:59]) || len(p.poll(1)) != 0 || p.nic.Stats() != (api.NicStats{Taken: 1, Thrown: 2}) {
		t.Errorf("H: Stats %+v", p.nic.Stats())
	}
	p.look("H")
	s := api.Send{Dst: stationB, Kind: 2054, Data: []byte{0x61}}
	for i := range 3 {
		b, e := p.send(s)
		if want := []int{60, 60, 0}[i]; len(b) != want || (e == api.ErrFull) != (want == 0) {
			t.Errorf("Send %d: %d bytes, %d", i, len(b), e)
		}
	}
	p.look("Send thrice")
	p.depart()
	p.send(api.Send{Dst: stationB, Kind: 1, Data: s.Data})
	if b, _ := p.send(api.Send{Dst: stationB, Kind: 2054, Data: filled(1500, 3)}); len(b) != 1514 {
		t.Errorf("Send of 1500 bytes: %d", len(b))
	}
	if got := p.nic.Stats(); got != (api.NicStats{Taken: 1, Thrown: 2, Sent: 3, Refused: 2}) {
		t.Errorf("Stats: %+v", got)
	}
	p.look("the last one")
}

// TestNewWithoutACard: P5.1: nil, whatever the station is.
func TestNewWithoutACard(t *testing.T) {
	for _, own := range []api.Mac{{}, stationA, group, everyone} {
		if nic.New(nil, own) != nil {
			t.Errorf("New(nil, %v): not nil", own)
		}
		if nic.New(card.New(0, 1), own) != nil || nic.New(card.New(1, 65), own) != nil {
			t.Errorf("New over a card that can't be, %v: not nil", own)
		}
	}
}

// TestAnyStation: P5.1: none is refused, and frames are for just that one or for all.
func TestAnyStation(t *testing.T) {
	stations := []api.Mac{{}, stationA, stationB, group, everyone, {0, 0, 0, 0, 0, 1}, {0x0a, 0, 0, 0, 0, 2}, {254, 255, 255, 255, 255, 255}}
	for _, own := range stations {
		p := newPair(t, 1, 1, own)
		for _, dst := range stations {
			p.arrive(raw(dst, stationB, 2048, 60, 1))
			if got := len(p.poll(1)) == 1; got != (dst == own || dst == everyone) {
				t.Errorf("the station %v and a frame to %v: taken %v", own, dst, got)
			}
			if b, _ := p.send(api.Send{Dst: dst, Kind: 2048}); len(b) != 60 {
				t.Errorf("the station %v sends to %v: %d bytes", own, dst, len(b))
			}
			p.depart()
			p.look("a frame each way")
		}
	}
}

// TestNewLeavesTheCard: P5.1: what lies in a card's first descriptors already is found there.
func TestNewLeavesTheCard(t *testing.T) {
	c := card.New(3, 3)
	for i := range 2 {
		c.Arrive(raw(stationA, stationB, 2048, 60+i, byte(i)))
	}
	n := nic.New(c, stationA)
	if k := c.Counts(); k != (api.CardCounts{In: 2}) || n.Stats() != (api.NicStats{}) {
		t.Errorf("behind New: Counts %+v, Stats %+v", k, n.Stats())
	}
	if l := n.Poll(3); len(l) != 2 || len(l[0].Data) != 46 || len(l[1].Data) != 47 {
		t.Errorf("frames that came ahead of New: %+v", l)
	}
}

// TestAllRings: P5.1, P5.2, P5.3: rings of all lengths, each way its own, more than twice round.
func TestAllRings(t *testing.T) {
	for size := 1; size <= 64; size++ {
		for _, other := range []int{1, 2, 64, 65 - size} {
			p := newPair(t, size, other, stationA)
			for i := range 2*max(size, other) + 3 {
				p.arrive(raw(stationA, stationB, 2048, 60, byte(i)))
				p.send(api.Send{Dst: stationB, Kind: 2054, Data: []byte{byte(i)}})
				if i%3 != 0 {
					p.poll(2)
					p.depart()
				}
			}
			p.look("more than twice round")
		}
	}
}
