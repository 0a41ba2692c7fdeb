package nic_test

import (
	"bytes"
	"math/rand/v2"
	"testing"

	"slipway/api"
)

// someFrame is one of all kinds that may come off a wire: for the station, for others, for all, amiss.
func someFrame(r *rand.Rand, own api.Mac) []byte {
	dst := []api.Mac{own, own, own, everyone, stationB, group}[r.IntN(6)]
	src := []api.Mac{stationB, stationB, stationB, own, group, everyone}[r.IntN(6)]
	kind := []int{2048, 2054, 1536, 65535, 1535, 0}[r.IntN(6)]
	size := []int{60, 61, 100, 1513, 1514, 59, 14, 1}[r.IntN(8)]
	return raw(dst, src, kind, size, byte(r.IntN(256)))
}

// TestAllComeOutInOrder: P5.5: those that are for the station, each once, in order, whatever the budgets; all others are thrown.
func TestAllComeOutInOrder(t *testing.T) {
	r := draws()
	for _, size := range []int{1, 2, 3, 63, 64} {
		p := newPair(t, size, 1, stationA)
		var came, got []api.Frame
		others := 0
		for range 300 {
			for range r.IntN(2*size + 1) {
				b := someFrame(r, stationA)
				if !p.arrive(b) {
					continue
				}
				if f, ok := plainFor(stationA, b); ok {
					came = append(came, f)
				} else {
					others++
				}
			}
			got = append(got, p.poll(r.IntN(2*size+2)-1)...)
		}
		got = append(got, p.poll(size)...)
		checkFrames(t, "all Polls", got, came)
		if s := p.nic.Stats(); s.Taken != len(came) || s.Thrown != others || s.Taken+s.Thrown != p.card.Counts().In {
			t.Errorf("a ring of %d: Stats %+v, %d came for the station, %d others", size, s, len(came), others)
		}
		if len(got) < 3*size || others < 3*size {
			t.Errorf("a ring of %d: %d frames and %d others, which is not thrice round", size, len(got), others)
		}
	}
}

// TestAllDepartInOrder: P5.5: what Send answered, byte for byte, each once, in order.
func TestAllDepartInOrder(t *testing.T) {
	r := draws()
	for _, size := range []int{1, 2, 3, 63, 64} {
		p := newPair(t, 1, size, stationA)
		var answered, left [][]byte
		for range 300 {
			for range r.IntN(2*size + 1) {
				kind := []int{2048, 2054, 1535}[r.IntN(3)]
				if b, e := p.send(api.Send{Dst: stationB, Kind: kind, Data: someBytes(r, r.IntN(100))}); e == api.OK {
					answered = append(answered, b)
				}
			}
			for range r.IntN(2*size + 1) {
				if b, ok := p.card.Depart(); ok {
					left = append(left, b)
					p.leaving = p.leaving[1:]
				}
			}
		}
		for b, ok := p.card.Depart(); ok; b, ok = p.card.Depart() {
			left = append(left, b)
		}
		if len(left) != len(answered) || len(left) < 3*size {
			t.Fatalf("a ring of %d: %d were sent, %d departed", size, len(answered), len(left))
		}
		for i, b := range left {
			if !bytes.Equal(b, answered[i]) {
				t.Fatalf("a ring of %d: frame %d: % x, want % x", size, i, b, answered[i])
			}
		}
	}
}

// step makes one call of any kind at a pair.
func step(p *pair, r *rand.Rand) {
	switch r.IntN(4) {
	case 0:
		p.arrive(someFrame(r, p.own))
	case 1:
		p.depart()
	case 2:
		p.poll(r.IntN(p.rx+3) - 1)
	case 3:
		kind := []int{1535, 1536, 2048, 2054, 65535, 65536}[r.IntN(6)]
		n := []int{0, 1, 45, 46, 47, 1499, 1500, 1501}[r.IntN(8)]
		p.send(api.Send{Dst: []api.Mac{p.own, stationB, everyone}[r.IntN(3)], Kind: kind, Data: someBytes(r, n)})
	}
}

// TestAnyCalls: P5.1 to P5.5: calls of all kinds, in any order.
func TestAnyCalls(t *testing.T) {
	r := draws()
	for _, n := range [][2]int{{1, 1}, {1, 2}, {2, 1}, {3, 2}, {2, 5}, {64, 63}, {63, 64}} {
		p := newPair(t, n[0], n[1], stationA)
		for range 2000 {
			step(p, r)
			p.look("a call")
		}
		if t.Failed() {
			t.Fatalf("at rings of %v", n)
		}
	}
}

// TestDriversBesideEachOther: R6: what one driver or its card is told is not seen at another.
func TestDriversBesideEachOther(t *testing.T) {
	r := draws()
	pairs := []*pair{newPair(t, 2, 3, stationA), newPair(t, 2, 3, stationA), newPair(t, 3, 2, stationB), newPair(t, 64, 64, api.Mac{4})}
	for range 1500 {
		step(pairs[r.IntN(len(pairs))], r)
		for _, p := range pairs {
			p.look("a call at one of four drivers")
		}
	}
}

// TestTwoStationsTalk: P5.2, P5.3, P5.5: what one sends to another comes out there, and what it sends to others doesn't.
func TestTwoStationsTalk(t *testing.T) {
	a, b := newPair(t, 2, 3, stationA), newPair(t, 3, 2, stationB)
	for i := range 100 {
		data := filled(46+i, byte(i))
		for k, dst := range []api.Mac{stationB, everyone, stationA, group} {
			a.send(api.Send{Dst: dst, Kind: 2048, Data: data})
			b.arrive(a.depart())
			l := b.poll(9)
			if (len(l) == 1) != (k < 2) {
				t.Fatalf("frame %d to %v: %d came out", i, dst, len(l))
			}
			if len(l) == 1 && (l[0].Src != stationA || l[0].Dst != dst || !bytes.Equal(l[0].Data, data)) {
				t.Fatalf("frame %d to %v: %+v", i, dst, l[0])
			}
		}
	}
}

// TestOthersAtTheRings: R1: whoever else calls Give and Lay, each call ends and none panics.
func TestOthersAtTheRings(t *testing.T) {
	r := draws()
	for _, n := range [][2]int{{1, 1}, {2, 3}, {64, 64}} {
		p := newPair(t, n[0], n[1], stationA)
		for range 2000 {
			switch r.IntN(6) {
			case 0:
				p.card.Give(r.IntN(n[0]))
			case 1:
				p.card.Lay(r.IntN(n[1]), filled(60, 8))
			case 2:
				p.card.Arrive(someFrame(r, stationA))
			case 3:
				p.card.Depart()
			case 4:
				p.nic.Poll(r.IntN(100))
			case 5:
				p.nic.Send(api.Send{Dst: stationB, Kind: 2048})
			}
		}
	}
}
