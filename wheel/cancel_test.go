package wheel_test

import (
	"math"
	"slices"
	"testing"
)

// TestCancelOfNone: P7.3: a number that was never told, went off, was taken away, below 1.
func TestCancelOfNone(t *testing.T) {
	p := newPair(t)
	for _, id := range []int{1, 0, -1, math.MinInt, math.MaxInt} {
		if p.cancel(id) {
			t.Errorf("Cancel(%d) of an empty wheel: true", id)
		}
	}
	for _, gap := range edgeGaps {
		p.arm(gap, gap)
	}
	last := p.plain.last
	p.advance(64)
	p.cancel(last)
	p.cancel(last - 1)
	for id := -3; id <= last+3; id++ {
		there := slices.ContainsFunc(p.plain.timers, hasId(id))
		if !there && p.cancel(id) {
			t.Errorf("Cancel(%d): true", id)
		}
	}
	for _, id := range []int{math.MinInt, math.MinInt + 1, -1 << 32, -1, 0, last + 1, last + 1<<32, last + 1024, 1 << 32, math.MaxInt} {
		if p.cancel(id) {
			t.Errorf("Cancel(%d): true", id)
		}
	}
	p.empty()
	for id := range last + 1 {
		if p.cancel(id) {
			t.Errorf("Cancel(%d) behind all: true", id)
		}
	}
}

// TestCancelIsNoTag: P7.3: a timer is known by its number, neither by its tag nor by its time.
func TestCancelIsNoTag(t *testing.T) {
	p := newPair(t)
	p.arm(9, 8)
	p.arm(9, 8)
	p.cancel(8)
	p.cancel(9)
	p.cancel(1)
	p.cancel(1)
	p.empty()
}

// TestCancelOfEach: P7.3: of timers at one time or at several, near and far, each one, and none but it, in any place of its slot or of what lies beyond.
func TestCancelOfEach(t *testing.T) {
	for _, now := range []int{0, 63, 1<<24 - 1, 1<<50 - 1<<24 - 5} {
		for _, gap := range edgeGaps {
			for many := 1; many <= 7; many++ {
				for id := 1; id <= many; id++ {
					p := pairAt(t, now)
					for i := range many {
						p.arm(now+gap+i%3*40, i)
					}
					p.cancel(id)
					p.cancel(id)
					p.empty()
				}
			}
		}
	}
}

// TestCancelBehindAdvance: P7.3: also where a timer was set long ago, and lies nearer by now.
func TestCancelBehindAdvance(t *testing.T) {
	for _, gap := range edgeGaps {
		for _, on := range edgeGaps {
			if on >= gap {
				continue
			}
			for id := 1; id <= 4; id++ {
				p := newPair(t)
				p.arm(gap, 1)
				p.arm(gap+1, 2)
				p.advance(on)
				p.arm(gap, 3)
				p.arm(gap+1, 4)
				if !p.cancel(id) {
					t.Errorf("Cancel(%d) at %d of a timer at %d: false", id, on, gap)
				}
				p.empty()
			}
		}
	}
}

// TestCancelAll: P7.3: all of MaxTimers, from the first on, from the last on, and all over the place; the wheel is then as one without timers.
func TestCancelAll(t *testing.T) {
	r := chance()
	for _, s := range spreads {
		rising := make([]int, 1024)
		for i := range rising {
			rising[i] = i + 1
		}
		falling, mixed := slices.Clone(rising), slices.Clone(rising)
		slices.Reverse(falling)
		r.Shuffle(len(mixed), func(i, j int) { mixed[i], mixed[j] = mixed[j], mixed[i] })
		for _, ids := range [][]int{rising, falling, mixed} {
			p := newPair(t)
			p.fill(s.at)
			for _, id := range ids {
				if !p.cancel(id) {
					t.Fatalf("%s: Cancel(%d): false", s.name, id)
				}
			}
			p.arm(70, 1)
			p.empty()
		}
	}
}
