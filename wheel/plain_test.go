package wheel_test

import (
	"cmp"
	"math"
	"math/rand/v2"
	"slices"
	"testing"

	"slipway/api"
	"slipway/wheel"
)

// chance is the same row of numbers at each run: a fault that it shows can be looked at again.
func chance() *rand.Rand { return rand.New(rand.NewPCG(7, 1)) }

// The times, or gaps between times, about those at which a level, or what all levels reach, ends.
var edgeGaps = []int{0, 1, 2, 62, 63, 64, 65, 127, 128, 4095, 4096, 4097, 8191, 8192, 1<<18 - 1, 1 << 18, 1<<18 + 1, 1<<24 - 1, 1 << 24, 1<<24 + 1, 1<<25 - 1, 1 << 25, 1 << 30, 1<<40 + 77, 1<<50 - 1, 1 << 50}

// The times of a wheel at which it stands at a beginning, or at an end, of slots or of all that the levels reach.
var edgeNows = []int{0, 1, 62, 63, 64, 4095, 4096, 4160, 1<<18 - 1, 1 << 18, 1<<24 - 1, 1 << 24, 1<<24 + 4095, 3<<24 - 1, 1<<40 + 12345, 1<<50 - 1<<24 - 1, 1<<50 - 1<<24, 1<<50 - 65, 1<<50 - 64, 1<<50 - 1, 1 << 50}

// Times that may not be, on both sides.
var wrongTimes = []int{math.MinInt, math.MinInt + 1, -1 << 50, -64, -1, 1<<50 + 1, 1<<50 + 64, 1 << 51, 1 << 60, math.MaxInt - 1, math.MaxInt}

// plain is a wheel told as the chapter tells it: a list of timers, in no order.
type plain struct {
	now, last int
	timers    []api.Fired
}

func (p *plain) counts(t int) int {
	if t < p.now {
		return p.now
	}
	if t > 1<<50 {
		return 1 << 50
	}
	return t
}

func (p *plain) arm(at, tag int) (int, api.Errno) {
	if len(p.timers) == 1024 {
		return 0, 70
	}
	p.last++
	p.timers = append(p.timers, api.Fired{At: p.counts(at), Id: p.last, Tag: tag})
	return p.last, 0
}

func (p *plain) cancel(id int) bool {
	was := len(p.timers)
	p.timers = slices.DeleteFunc(p.timers, func(f api.Fired) bool { return f.Id == id })
	return len(p.timers) < was
}

func (p *plain) advance(now int) []api.Fired {
	p.now = p.counts(now)
	var fired, rest []api.Fired
	for _, f := range p.timers {
		if f.At <= p.now {
			fired = append(fired, f)
		} else {
			rest = append(rest, f)
		}
	}
	p.timers = rest
	slices.SortFunc(fired, inOrder)
	return fired
}

func (p *plain) next() (int, bool) {
	if len(p.timers) == 0 {
		return 0, false
	}
	return slices.MinFunc(p.timers, inOrder).At, true
}

func inOrder(a, b api.Fired) int { return cmp.Or(cmp.Compare(a.At, b.At), cmp.Compare(a.Id, b.Id)) }

// pair is a wheel with a plain one beside it that is told the same.
type pair struct {
	t     *testing.T
	wheel *wheel.Wheel
	plain *plain
}

func newPair(t *testing.T) *pair {
	t.Helper()
	w := wheel.New()
	if w == nil {
		t.Fatal("New: nil")
	}
	p := &pair{t, w, &plain{}}
	p.look("New")
	return p
}

// pairAt is one whose time is now.
func pairAt(t *testing.T, now int) *pair {
	t.Helper()
	p := newPair(t)
	p.advance(now)
	return p
}

// look holds all that can be seen of the wheel against the plain one, twice, as nothing changes by looking.
func (p *pair) look(behind string) {
	p.t.Helper()
	for range 2 {
		if got := p.wheel.Now(); got != p.plain.now {
			p.t.Fatalf("behind %s: Now: %d, want %d", behind, got, p.plain.now)
		}
		if got := p.wheel.Len(); got != len(p.plain.timers) {
			p.t.Fatalf("behind %s: Len: %d, want %d", behind, got, len(p.plain.timers))
		}
		want, wantOk := p.plain.next()
		if got, ok := p.wheel.Next(); got != want || ok != wantOk {
			p.t.Fatalf("behind %s: Next: %d, %v, want %d, %v", behind, got, ok, want, wantOk)
		}
	}
}

func (p *pair) arm(at, tag int) int {
	p.t.Helper()
	id, err := p.wheel.Arm(at, tag)
	wantId, want := p.plain.arm(at, tag)
	if id != wantId || err != want {
		p.t.Fatalf("Arm(%d, %d): %d, %d, want %d, %d", at, tag, id, err, wantId, want)
	}
	p.look("Arm")
	return wantId
}

func (p *pair) cancel(id int) bool {
	p.t.Helper()
	got, want := p.wheel.Cancel(id), p.plain.cancel(id)
	if got != want {
		p.t.Fatalf("Cancel(%d): %v, want %v", id, got, want)
	}
	p.look("Cancel")
	return want
}

func (p *pair) advance(now int) []api.Fired {
	p.t.Helper()
	from := p.plain.now
	got, want := p.wheel.Advance(now), p.plain.advance(now)
	if !slices.Equal(got, want) {
		p.t.Fatalf("Advance(%d) from %d: %v, want %v", now, from, got, want)
	}
	p.look("Advance")
	return want
}

// empty goes from timer to timer until none is left.
func (p *pair) empty() {
	p.t.Helper()
	for len(p.plain.timers) > 0 {
		at, _ := p.plain.next()
		p.advance(at)
	}
	p.advance(math.MaxInt)
}

// someGap is near or far: each number of bits is as likely as another.
func someGap(r *rand.Rand) int {
	if r.IntN(3) == 0 {
		return edgeGaps[r.IntN(len(edgeGaps))]
	}
	return int(r.Uint64() >> (13 + r.IntN(51)))
}

// step makes one call of any kind.
func (p *pair) step(r *rand.Rand) {
	p.t.Helper()
	switch r.IntN(8) {
	case 0, 1, 2:
		p.arm(p.plain.now+someGap(r), int(r.Uint64()))
	case 3:
		p.arm(p.plain.now+r.IntN(70), r.IntN(9))
	case 4:
		if n := len(p.plain.timers); n > 0 {
			p.cancel(p.plain.timers[r.IntN(n)].Id)
		}
	case 5:
		p.cancel(r.IntN(p.plain.last + 2))
	case 6:
		p.advance(p.plain.now + r.IntN(70))
	case 7:
		p.advance(p.plain.now + int(r.Uint64()>>(34+r.IntN(30))))
	}
}
