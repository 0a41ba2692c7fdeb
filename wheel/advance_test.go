package wheel_test

import (
	"math"
	"slices"
	"testing"

	"slipway/api"
)

func hasId(id int) func(api.Fired) bool { return func(f api.Fired) bool { return f.Id == id } }

// TestAdvanceTimes: P7.1, P7.4, R7: what a time counts as, and that the time never falls.
func TestAdvanceTimes(t *testing.T) {
	for _, now := range edgeNows {
		for _, to := range append([]int{now - 1, now, now + 1, 0, 1<<50 - 1, 1 << 50}, wrongTimes...) {
			p := pairAt(t, now)
			p.arm(now, 1)
			p.arm(1<<50, 2)
			p.advance(to)
			if want := min(max(to, now), 1<<50); p.wheel.Now() != want {
				t.Errorf("Advance(%d) at %d: Now %d, want %d", to, now, p.wheel.Now(), want)
			}
			p.advance(0)
			p.empty()
		}
	}
}

// TestAdvanceAtMaxTime: P7.4: where the time can't grow any more, timers are set and go off still.
func TestAdvanceAtMaxTime(t *testing.T) {
	p := pairAt(t, math.MaxInt)
	for i, at := range wrongTimes {
		p.arm(at, i)
		p.arm(0, i)
		if i%2 == 0 {
			p.advance(at)
		}
	}
	p.advance(0)
	p.advance(1 << 50)
}

// TestOrderOfOneTime: P7.4: by their numbers, be they set near it or far ahead of it.
func TestOrderOfOneTime(t *testing.T) {
	for _, gap := range edgeGaps {
		p := newPair(t)
		for i := range 9 {
			p.arm(gap, -i)
		}
		// Ever nearer to the time, so that they come to it by all ways.
		for _, back := range []int{1 << 30, 1<<24 + 1, 1 << 24, 1<<24 - 1, 1<<18 + 1, 1 << 18, 5000, 4096, 4095, 65, 64, 63, 1} {
			if gap > back {
				p.advance(gap - back)
			}
			p.arm(gap, back)
			p.arm(gap+1, back)
			p.arm(gap-1, back)
		}
		p.cancel(4)
		p.advance(gap)
		p.empty()
	}
}

// TestReach: P7.4: two timers, and an Advance, at gaps as those at which levels end, from times at which slots end.
func TestReach(t *testing.T) {
	for _, now := range []int{0, 63, 4095, 1<<24 - 1, 3<<24 - 1, 1<<50 - 1<<24 - 1, 1<<50 - 65} {
		for _, a := range edgeGaps {
			for _, b := range edgeGaps {
				for _, on := range edgeGaps {
					p := pairAt(t, now)
					p.arm(now+a, 1)
					p.arm(now+b, 2)
					p.advance(now + on)
					p.arm(now+b, 3)
					p.empty()
				}
			}
		}
	}
}

// TestEachTickApart: P7.4: by one tick each, across the ends of slots and of levels, a timer at each tick, set in several rows.
func TestEachTickApart(t *testing.T) {
	for _, from := range []int{0, 3500, 1<<12*63 + 3500, 1<<18 - 200, 1<<18*63 - 200, 1<<24 - 500, 5<<24 - 200, 1<<50 - 1<<24 - 200, 1<<50 - 1000} {
		p := newPair(t)
		for i := range 1000 {
			p.arm(from+i*617%1000, i)
		}
		p.advance(from - 1)
		for i := range 1000 {
			p.arm(from+i+i%5*64, i)
			fired := p.advance(from + i)
			if len(fired) == 0 {
				t.Fatalf("Advance(%d): none", from+i)
			}
			p.cancel(fired[0].Id)
		}
		p.empty()
	}
}

// TestStepsAreOneAdvance: P7.6: Advance(a) and then Advance(b), one answer behind the other, are Advance(b); and so are many steps.
func TestStepsAreOneAdvance(t *testing.T) {
	r := chance()
	for range 300 {
		one, steps := newPair(t), newPair(t)
		for range 40 {
			at, tag := someGap(r), r.IntN(100)
			one.arm(at, tag)
			steps.arm(at, tag)
		}
		end := someGap(r)
		want := one.wheel.Advance(end)
		var got []api.Fired
		for range r.IntN(30) {
			got = append(got, steps.wheel.Advance(min(end, someGap(r)))...)
		}
		got = append(got, steps.wheel.Advance(end)...)
		if !slices.Equal(got, want) {
			t.Fatalf("steps up to %d: %v, at once: %v", end, got, want)
		}
		if one.wheel.Now() != steps.wheel.Now() || one.wheel.Len() != steps.wheel.Len() {
			t.Errorf("steps up to %d: Now %d, Len %d, at once: %d, %d", end, steps.wheel.Now(), steps.wheel.Len(), one.wheel.Now(), one.wheel.Len())
		}
		a, aOk := one.wheel.Next()
		b, bOk := steps.wheel.Next()
		if a != b || aOk != bOk {
			t.Errorf("steps up to %d: Next %d, %v, at once: %d, %v", end, b, bOk, a, aOk)
		}
		if rest := steps.wheel.Advance(1 << 50); !slices.Equal(rest, one.wheel.Advance(1<<50)) {
			t.Errorf("steps up to %d: %v behind it", end, rest)
		}
	}
}

// TestAnyCalls: P7.6: all calls in any order, with few timers and with as many as may be.
func TestAnyCalls(t *testing.T) {
	r := chance()
	for range 300 {
		p := newPair(t)
		for range 300 {
			p.step(r)
		}
		p.empty()
	}
	for range 3 {
		p := pairAt(t, someGap(r))
		for range 1024 {
			p.arm(p.plain.now+someGap(r), r.IntN(9))
		}
		for range 5000 {
			p.step(r)
		}
		p.empty()
	}
}

// TestEachTimerOnce: P7.6: told by one Advance, neither ahead of its At nor behind one that had reached it, or taken away by one Cancel, or there still.
func TestEachTimerOnce(t *testing.T) {
	r := chance()
	p := newPair(t)
	at, ended := map[int]int{}, map[int]int{}
	for range 20000 {
		switch r.IntN(4) {
		case 0, 1:
			want := min(p.plain.now+someGap(r), 1<<50)
			if id := p.arm(want, 0); id != 0 {
				at[id] = want
			}
		case 2:
			id := 1 + r.IntN(p.plain.last+1)
			if p.wheel.Cancel(id) {
				ended[id]++
			}
			p.plain.cancel(id)
		case 3:
			was := p.plain.now
			for _, f := range p.advance(was + int(r.Uint64()>>(40+r.IntN(24)))) {
				ended[f.Id]++
				if f.At != at[f.Id] || f.At < was || f.At > p.wheel.Now() {
					t.Errorf("from %d to %d: %v, set for %d", was, p.wheel.Now(), f, at[f.Id])
				}
			}
		}
		if p.wheel.Len() != len(at)-len(ended) {
			t.Fatalf("Len: %d, want %d", p.wheel.Len(), len(at)-len(ended))
		}
	}
	for _, f := range p.advance(1 << 50) {
		ended[f.Id]++
	}
	for id := range at {
		if ended[id] != 1 {
			t.Errorf("timer %d came to an end %d times", id, ended[id])
		}
	}
}
