package nic_test

import (
	"math"
	"testing"

	"slipway/api"
)

// TestSendLengths: P5.3: all lengths of data up to past the limit, with zeros behind where there are few; then refused, and counted so.
func TestSendLengths(t *testing.T) {
	p := newPair(t, 1, 1, stationA)
	r := draws()
	p.send(api.Send{Dst: stationB, Kind: 2048})
	p.look("no data")
	p.depart()
	for n := range 1600 {
		b, e := p.send(api.Send{Dst: stationB, Kind: 2048, Data: someBytes(r, n)})
		if n <= 1500 && len(b) != max(60, n+14) || n > 1500 && e != api.ErrLong {
			t.Errorf("Send of %d bytes: %d bytes, %d", n, len(b), e)
		}
		p.look("Send")
		p.depart()
	}
	p.send(api.Send{Dst: stationB, Kind: 2048, Data: make([]byte, 1<<20)})
	p.look("a million bytes")
}

// TestSendKinds: P5.3: all kinds of 16 bits, and what is about them.
func TestSendKinds(t *testing.T) {
	p := newPair(t, 1, 1, stationA)
	for kind := range 65536 {
		if _, e := p.send(api.Send{Dst: stationB, Kind: kind}); (e == api.OK) != (kind >= 1536) {
			t.Errorf("Send of the kind %d: %d", kind, e)
		}
		p.depart()
	}
	for _, kind := range []int{math.MinInt, -65536 + 2048, -2048, -1, 65536, 65536 + 2048, 1<<32 + 2048, math.MaxInt} {
		if _, e := p.send(api.Send{Dst: stationB, Kind: kind}); e != api.ErrKind {
			t.Errorf("Send of the kind %d: %d", kind, e)
		}
	}
	p.look("all kinds")
}

// TestSendFromOwn: P5.3: the source is the station's own, whomever it is for.
func TestSendFromOwn(t *testing.T) {
	for _, own := range []api.Mac{{}, stationA, group, everyone, {1, 2, 3, 4, 5, 6}} {
		p := newPair(t, 2, 2, own)
		for _, dst := range []api.Mac{{}, own, stationB, group, everyone, {9, 8, 7, 6, 5, 4}} {
			b, _ := p.send(api.Send{Dst: dst, Kind: 2054, Data: []byte{1, 2}})
			if len(b) != 60 || api.Mac(b[:6]) != dst || api.Mac(b[6:12]) != own || b[12] != 8 || b[13] != 6 {
				t.Errorf("from %v to %v: % x", own, dst, b)
			}
			p.depart()
		}
	}
}

// TestSendErrorOrder: P5.3 with R5: Seal's errors come first, in its order, then the full ring.
func TestSendErrorOrder(t *testing.T) {
	p := newPair(t, 1, 1, stationA)
	for _, full := range []bool{false, true} {
		for _, kind := range []int{-1, 0, 1535, 65536} {
			for _, n := range []int{0, 1500, 1501} {
				if _, e := p.send(api.Send{Dst: stationB, Kind: kind, Data: filled(n, 1)}); e != api.ErrKind {
					t.Errorf("kind %d, %d bytes, a full ring %v: %d", kind, n, full, e)
				}
			}
		}
		if _, e := p.send(api.Send{Dst: stationB, Kind: 1536, Data: filled(1501, 1)}); e != api.ErrLong {
			t.Errorf("1501 bytes, a full ring %v: %d", full, e)
		}
		p.look("errors")
		if _, e := p.send(api.Send{Dst: stationB, Kind: 65535, Data: filled(1500, 1)}); (e == api.ErrFull) != full {
			t.Errorf("a full ring %v: %d", full, e)
		}
		p.look("a frame as it should be")
	}
}

// TestRefusedChangesNothing: P5.3, P5.4 with R4: but the count: neither answer nor ring nor tail.
func TestRefusedChangesNothing(t *testing.T) {
	for _, size := range []int{1, 2, 3, 64} {
		p := newPair(t, 1, size, stationA)
		for i := range 2*size + 1 {
			for _, s := range []api.Send{{Dst: stationB, Kind: 1535}, {Dst: stationB, Kind: 2048, Data: filled(1501, 1)}} {
				was := p.nic.Stats()
				if b, e := p.send(s); len(b) != 0 || e == api.OK {
					t.Errorf("refused: %d bytes, %d", len(b), e)
				}
				was.Refused++
				if p.nic.Stats() != was {
					t.Errorf("Stats: %+v, want %+v", p.nic.Stats(), was)
				}
				p.look("refused")
			}
			p.send(api.Send{Dst: stationB, Kind: 2048, Data: []byte{byte(i)}})
			p.look("Send")
			if i%2 == 1 {
				p.depart()
			}
		}
	}
}

// TestFullRing: P5.3, P5.4, P5.5: as many as there are descriptors; then ErrFull till one departs, and room for one then.
func TestFullRing(t *testing.T) {
	for _, size := range []int{1, 2, 3, 63, 64} {
		p := newPair(t, 1, size, stationA)
		for i := range size {
			if _, e := p.send(api.Send{Dst: stationB, Kind: 2048, Data: []byte{byte(i)}}); e != api.OK {
				t.Errorf("a ring of %d: Send %d: %d", size, i, e)
			}
		}
		for i := range 3 * size {
			for range 2 {
				if _, e := p.send(api.Send{Dst: stationB, Kind: 2048, Data: []byte{99}}); e != api.ErrFull {
					t.Errorf("a full ring of %d: %d", size, e)
				}
			}
			p.look("a full ring")
			p.depart()
			if _, e := p.send(api.Send{Dst: stationB, Kind: 2048, Data: []byte{byte(size + i)}}); e != api.OK {
				t.Errorf("a ring of %d with room for one: %d", size, e)
			}
			p.look("a ring that is full again")
		}
		if got := p.nic.Stats(); got != (api.NicStats{Sent: 4 * size, Refused: 6 * size}) {
			t.Errorf("Stats: %+v", got)
		}
	}
}

// TestLookingChangesNothing: P5.1, P5.4.
func TestLookingChangesNothing(t *testing.T) {
	p := newPair(t, 3, 3, stationA)
	for i := range 7 {
		p.arrive(frameTo(stationA, byte(i)))
		p.send(api.Send{Dst: stationB, Kind: 2048, Data: []byte{byte(i)}})
		for range 3 {
			p.look("a look")
		}
		p.poll(i % 3)
		p.depart()
	}
}
