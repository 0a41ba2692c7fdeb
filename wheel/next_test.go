package wheel_test

import "testing"

// TestNextOfSeveral: P7.5: the least At, in whichever order the timers were set, near and far, in one slot or in several.
func TestNextOfSeveral(t *testing.T) {
	for _, now := range edgeNows {
		for _, a := range edgeGaps {
			for _, b := range edgeGaps {
				p := pairAt(t, now)
				p.arm(now+a+5, 1)
				p.arm(now+b, 2)
				p.arm(now+a, 3)
				want := min(now+min(a, b), 1<<50)
				if got, ok := p.wheel.Next(); got != want || !ok {
					t.Errorf("Next at %d of %d, %d, %d: %d, %v, want %d", now, now+a+5, now+b, now+a, got, ok, want)
				}
			}
		}
	}
}

// TestNextBehindCancel: P7.5: where the first timer was taken away, the second one is the first, and so on until there is none.
func TestNextBehindCancel(t *testing.T) {
	for _, now := range edgeNows {
		for _, s := range spreads {
			p := pairAt(t, now)
			for i := range 40 {
				p.arm(now+s.at(i), i)
			}
			for range 40 {
				first := p.plain.timers[0]
				for _, f := range p.plain.timers {
					if inOrder(f, first) < 0 {
						first = f
					}
				}
				p.cancel(first.Id)
			}
			if at, ok := p.wheel.Next(); at != 0 || ok {
				t.Errorf("Next of none: %d, %v", at, ok)
			}
		}
	}
}

// TestNextBehindAdvance: P7.5: above the time, where timers went off and where none did.
func TestNextBehindAdvance(t *testing.T) {
	for _, on := range edgeGaps {
		p := newPair(t)
		for i, gap := range edgeGaps {
			p.arm(gap, i)
			p.arm(gap+7, i)
		}
		p.advance(on)
		if at, ok := p.wheel.Next(); ok && at <= on {
			t.Errorf("Next behind Advance(%d): %d", on, at)
		}
		p.arm(on, 1)
		if at, ok := p.wheel.Next(); at != on || !ok {
			t.Errorf("Next behind Arm(%d) at that time: %d, %v", on, at, ok)
		}
		p.advance(on)
	}
}
