package wheel_test

import (
	"math"
	"testing"

	"slipway/api"
)

// TestArmTimes: P7.2, R7: below the wheel's time, at it, above it, at MaxTime, above it, and as an int allows.
func TestArmTimes(t *testing.T) {
	for _, now := range edgeNows {
		for _, at := range append([]int{now - 1, now, now + 1, 0, 1 << 49, 1<<50 - 1, 1 << 50}, wrongTimes...) {
			p := pairAt(t, now)
			p.arm(at, 5)
			want := min(max(at, now), 1<<50)
			if got, ok := p.wheel.Next(); got != want || !ok {
				t.Errorf("Next behind Arm(%d) at %d: %d, %v, want %d", at, now, got, ok, want)
			}
			if want > now {
				p.advance(want - 1)
			}
			p.advance(want)
		}
	}
}

// TestArmIsNoTime: P7.2: the At of a timer, as great as it may be, is not the wheel's time.
func TestArmIsNoTime(t *testing.T) {
	p := newPair(t)
	for _, at := range []int{1 << 50, math.MaxInt, 1 << 24, 77, 64, 63, 1, 0, math.MinInt} {
		p.arm(at, at)
		if now := p.wheel.Now(); now != 0 {
			t.Errorf("Now behind Arm(%d): %d", at, now)
		}
	}
	p.empty()
}

// TestTags: P7.2: any number is a tag, also one that another timer has.
func TestTags(t *testing.T) {
	p := newPair(t)
	for _, gap := range edgeGaps {
		for _, tag := range []int{0, 1, -1, math.MinInt, math.MaxInt, 7, 7} {
			p.arm(gap, tag)
		}
	}
	p.empty()
}

// TestNumbers: P7.2: from 1 on, one more each, whatever went off or was taken away in between.
func TestNumbers(t *testing.T) {
	p := newPair(t)
	for i := range 3000 {
		id := p.arm(i%7*100, i)
		if id != i+1 {
			t.Fatalf("Arm: %d, want %d", id, i+1)
		}
		switch i % 3 {
		case 0:
			p.cancel(id)
		case 1:
			p.advance(i)
		}
	}
	p.empty()
	p.cancel(3000)
	if id := p.arm(0, 0); id != 3001 {
		t.Errorf("Arm behind all others: %d, want 3001", id)
	}
}

// fill sets timers until there are MaxTimers.
func (p *pair) fill(at func(i int) int) {
	p.t.Helper()
	for i := range api.MaxTimers {
		p.arm(at(i), i)
	}
}

// refuse looks that one more is refused, for any time, and that nothing is changed by it.
func (p *pair) refuse() {
	p.t.Helper()
	for _, at := range append([]int{p.plain.now, p.plain.now + 1, 1 << 50}, wrongTimes...) {
		if id, err := p.wheel.Arm(at, 1); id != 0 || err != api.ErrTimers {
			p.t.Fatalf("Arm of one more: %d, %d, want 0, 70", id, err)
		}
		p.look("Arm of one more")
	}
}

var spreads = []struct {
	name string
	at   func(i int) int
}{
	{"one time", func(int) int { return 50 }},
	{"at once", func(int) int { return 0 }},
	{"one far time", func(int) int { return 1 << 40 }},
	{"a row", func(i int) int { return i }},
	{"a falling row", func(i int) int { return 2000 - i }},
	{"cubes", func(i int) int { return i * i * i }},
	{"falling far cubes", func(i int) int { return 1<<45 - i*i*i*i }},
	{"edges", func(i int) int { return edgeGaps[i%len(edgeGaps)] }},
	{"far and near by turns", func(i int) int { return i%2<<48 + i%5 }},
}

// TestFullBehindCancel: P7.2: MaxTimers timers, one more, and one more behind a Cancel, whose number is the one behind the last that was told.
func TestFullBehindCancel(t *testing.T) {
	for _, s := range spreads {
		t.Run(s.name, func(t *testing.T) {
			p := newPair(t)
			p.fill(s.at)
			p.refuse()
			for i, id := range []int{500, 1, 1024, 1025, 1026} {
				p.cancel(id)
				if got := p.arm(s.at(id), -id); got != 1025+i {
					t.Errorf("Arm behind Cancel(%d): %d, want %d", id, got, 1025+i)
				}
				p.refuse()
				p.cancel(id)
				p.refuse()
			}
			p.empty()
		})
	}
}

// TestFullBehindAdvance: P7.2: one more, or as many as went off.
func TestFullBehindAdvance(t *testing.T) {
	for _, s := range spreads {
		t.Run(s.name, func(t *testing.T) {
			p := newPair(t)
			p.fill(s.at)
			for range 20 {
				p.refuse()
				at, _ := p.plain.next()
				went := len(p.advance(at))
				if went == 0 {
					t.Fatalf("Advance(%d): none", at)
				}
				for i := range went {
					p.arm(at+s.at(i), i)
				}
			}
			p.refuse()
			p.empty()
			p.fill(s.at)
			p.refuse()
		})
	}
}
