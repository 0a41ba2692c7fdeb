package wheel_test

import (
	"slices"
	"testing"

	"slipway/api"
	"slipway/wheel"
)

// example makes one wheel's calls and holds each answer against one that was written down.
type example struct {
	t *testing.T
	w *wheel.Wheel
}

func (x example) arm(at, tag, want int) {
	x.t.Helper()
	if id, err := x.w.Arm(at, tag); id != want || err != api.OK {
		x.t.Errorf("Arm(%d, %d): %d, %d, want %d, 0", at, tag, id, err, want)
	}
}

func (x example) cancel(id int, want bool) {
	x.t.Helper()
	if got := x.w.Cancel(id); got != want {
		x.t.Errorf("Cancel(%d): %v, want %v", id, got, want)
	}
}

func (x example) advance(now int, want ...api.Fired) {
	x.t.Helper()
	if got := x.w.Advance(now); !slices.Equal(got, want) {
		x.t.Errorf("Advance(%d): %v, want %v", now, got, want)
	}
}

func (x example) next(want int, wantOk bool) {
	x.t.Helper()
	if got, ok := x.w.Next(); got != want || ok != wantOk {
		x.t.Errorf("Next: %d, %v, want %d, %v", got, ok, want, wantOk)
	}
}

func (x example) stands(now, many int) {
	x.t.Helper()
	if x.w.Now() != now || x.w.Len() != many {
		x.t.Errorf("Now %d, Len %d, want %d, %d", x.w.Now(), x.w.Len(), now, many)
	}
}

// TestNew: P7.1.
func TestNew(t *testing.T) {
	x := example{t, wheel.New()}
	x.stands(0, 0)
	x.next(0, false)
	x.cancel(1, false)
	x.advance(0)
	x.stands(0, 0)
}

// TestExamples: the chapter's table, row by row.
func TestExamples(t *testing.T) {
	x := example{t, wheel.New()}
	x.next(0, false)
	x.arm(7, 70, 1)
	x.arm(5, 50, 2)
	x.arm(7, 71, 3)
	x.arm(-3, 3, 4)
	x.stands(0, 4)

	x.next(0, true)
	x.advance(0, api.Fired{At: 0, Id: 4, Tag: 3})
	x.stands(0, 3)

	x.advance(4)
	x.next(5, true)
	x.stands(4, 3)

	x.cancel(3, true)
	x.cancel(3, false)
	x.cancel(9, false)
	x.stands(4, 2)

	x.advance(2)
	x.arm(1, 10, 5)
	x.stands(4, 3)

	x.advance(7, api.Fired{At: 4, Id: 5, Tag: 10}, api.Fired{At: 5, Id: 2, Tag: 50}, api.Fired{At: 7, Id: 1, Tag: 70})
	x.stands(7, 0)

	x.arm(1<<50+9, 1, 6)
	x.arm(1<<50, 2, 7)
	x.advance(1<<60, api.Fired{At: 1 << 50, Id: 6, Tag: 1}, api.Fired{At: 1 << 50, Id: 7, Tag: 2})
	x.stands(1<<50, 0)

	for i := range 1024 {
		x.arm(i, i, 8+i)
	}
	if id, err := x.w.Arm(1, 1); id != 0 || err != api.ErrTimers {
		t.Errorf("Arm of one more: %d, %d", id, err)
	}
	x.cancel(500, true)
	x.arm(1, 1, 1032)
	x.stands(1<<50, 1024)
}
