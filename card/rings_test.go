package card_test

import (
	"testing"

	"slipway/api"
)

// TestArriveLengths: P4.2, P4.6: all lengths from none up to past the limit; those that may not be are not counted.
func TestArriveLengths(t *testing.T) {
	p := newPair(t, 1, 1)
	r := draws()
	p.arrive(nil)
	p.look("no bytes")
	for n := range 1600 {
		b := someBytes(r, n)
		if took := p.arrive(b); took != (n >= 1 && n <= 1514) {
			t.Errorf("Arrive of %d bytes: %v", n, took)
		}
		p.look("Arrive")
		p.give(0)
	}
	p.arrive(make([]byte, 1<<20))
	p.look("a million bytes")
}

// TestArriveAtAFullRing: P4.2, P4.6: what has a frame's length is dropped and counted, what hasn't is not, and the ring stays as it is.
func TestArriveAtAFullRing(t *testing.T) {
	for _, n := range []int{1, 2, 63, 64} {
		p := newPair(t, n, 1)
		for i := range n {
			p.arrive(filled(60+i, byte(i)))
		}
		p.look("as many as there are descriptors")
		for _, size := range []int{0, 1, 59, 60, 1514, 1515, 3000} {
			if p.arrive(filled(size, 99)) {
				t.Errorf("Arrive of %d bytes at a full ring of %d: true", size, n)
			}
			p.look("one more")
		}
		if c := p.card.Counts(); c != (api.CardCounts{In: n, Dropped: 4}) {
			t.Errorf("Counts: %+v", c)
		}
	}
}

// TestArriveWaitsForTheNext: P4.2: the next descriptor counts, even if the card has all others.
func TestArriveWaitsForTheNext(t *testing.T) {
	p := newPair(t, 4, 1)
	for i := range 4 {
		p.arrive(filled(60, byte(i)))
	}
	for _, i := range []int{2, 1, 3} {
		p.give(i)
		if p.arrive(filled(61, 9)) {
			t.Errorf("Arrive behind Give(%d): true", i)
		}
		p.look("Give")
	}
	p.give(0)
	for i := range 4 {
		if !p.arrive(filled(62, byte(i))) {
			t.Error("Arrive behind Give(0): false")
		}
		p.look("Give(0)")
	}
	p.arrive(filled(63, 9))
	p.look("a ring that is full again")
}

// TestGive: P4.5: what is the card's already is refused, whether a frame ever lay in it or not.
func TestGive(t *testing.T) {
	p := newPair(t, 3, 3)
	for i := range 3 {
		p.give(i)
	}
	p.look("Give at an empty ring")
	p.arrive(filled(60, 1))
	p.give(1)
	p.give(0)
	p.look("Give(0)")
	p.give(0)
	p.look("Give(0) once more")
	for range 3 {
		p.lay(0, filled(60, 2)) // the other ring's descriptors are no matter of Give's
		p.give(0)
	}
	p.look("Lay and Give")
}

// TestLayLengths: P4.5: all lengths from none up to past the limit.
func TestLayLengths(t *testing.T) {
	p := newPair(t, 1, 1)
	r := draws()
	p.lay(0, nil)
	p.look("no bytes")
	for n := range 1600 {
		took := p.lay(0, someBytes(r, n)) == api.OK
		if took != (n >= 60 && n <= 1514) {
			t.Errorf("Lay of %d bytes: %v", n, took)
		}
		p.look("Lay")
		p.depart()
		p.look("Depart")
	}
	p.lay(0, make([]byte, 1<<20))
	p.look("a million bytes")
}

// TestLayErrorOrder: P4.5 with R5: a wrong number comes first, a wrong length next, whose the descriptor is last.
func TestLayErrorOrder(t *testing.T) {
	p := newPair(t, 1, 2)
	p.lay(0, filled(60, 1))
	for _, n := range []int{0, 59, 60, 1514, 1515} {
		for _, i := range []int{-1, 2, 3} {
			if e := p.lay(i, filled(n, 2)); e != api.ErrRing {
				t.Errorf("Lay(%d, %d bytes): %d", i, n, e)
			}
		}
	}
	for n, want := range map[int]api.Errno{0: 5, 59: 5, 60: 41, 1514: 41, 1515: 2, 3000: 2} {
		if e := p.lay(0, filled(n, 2)); e != want {
			t.Errorf("Lay of %d bytes into the card's descriptor: %d, want %d", n, e, want)
		}
	}
	p.look("what was refused")
}

// TestLengthIsNotCapacity: what lies behind the bytes that are handed in is not theirs.
func TestLengthIsNotCapacity(t *testing.T) {
	p := newPair(t, 2, 2)
	room := someBytes(draws(), 2000)
	p.arrive(room[:0])
	p.arrive(room[:1])
	p.arrive(room[:1514])
	p.lay(0, room[:59])
	p.lay(0, room[:60])
	p.lay(1, room[:1514])
	p.lay(1, room[:1515])
	p.look("bytes with room behind them")
}

// TestShorterBehindLonger: P4.2, P4.4, P4.5: of an older frame in the same descriptor nothing is left.
func TestShorterBehindLonger(t *testing.T) {
	p := newPair(t, 1, 1)
	for _, n := range []int{1514, 1, 60, 59, 61, 2, 1513} {
		p.arrive(filled(n, byte(n)))
		p.look("Arrive")
		p.give(0)
		p.look("Give")
		p.lay(0, filled(n, byte(n+1)))
		p.look("Lay")
		p.depart()
		p.look("Depart")
	}
}

// TestDepartWaitsForTheNext: P4.3: the next descriptor counts, even if the card has all others.
func TestDepartWaitsForTheNext(t *testing.T) {
	p := newPair(t, 1, 4)
	p.depart()
	p.look("Depart at an empty ring")
	for _, i := range []int{3, 1, 2} {
		p.lay(i, filled(60, byte(i)))
		if _, ok := p.depart(); ok {
			t.Errorf("Depart behind Lay(%d): true", i)
		}
		p.look("Lay")
	}
	p.lay(0, filled(60, 0))
	for i := range 4 {
		if b, ok := p.depart(); !ok || b[0] != byte(i) {
			t.Errorf("Depart %d: % x, %v", i, b, ok)
		}
		p.look("Depart")
	}
	p.depart()
	p.look("a ring that is empty again")
}

// TestZerosAreAFrame: P4.3, P4.4: a frame of zeros is none that is empty.
func TestZerosAreAFrame(t *testing.T) {
	p := newPair(t, 1, 1)
	p.arrive([]byte{0})
	p.lay(0, make([]byte, 60))
	p.look("zeros")
	p.depart()
	p.look("Depart")
}

// TestLookingChangesNothing: P4.1, P4.4, P4.6.
func TestLookingChangesNothing(t *testing.T) {
	p := newPair(t, 3, 3)
	for i := range 5 {
		p.arrive(filled(60+i, 1))
		p.lay(i%3, filled(60+i, 2))
		for range 3 {
			p.look("a look")
		}
	}
}
