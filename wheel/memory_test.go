package wheel_test

import (
	"slices"
	"testing"

	"slipway/api"
)

// overwrite fills an answer and the spare room behind it.
func overwrite(l []api.Fired) {
	l = l[:cap(l)]
	for i := range l {
		l[i] = api.Fired{At: -1, Id: -1, Tag: -1}
	}
}

// TestAnswersStay: R2: what was answered is as it was, whatever is done to the wheel, and to other answers, later.
func TestAnswersStay(t *testing.T) {
	r := chance()
	p := newPair(t)
	var answers, copies [][]api.Fired
	for i := range 300 {
		for range 30 {
			p.arm(p.plain.now+r.IntN(90), i)
		}
		p.plain.advance(p.plain.now + 9)
		got := p.wheel.Advance(p.plain.now)
		answers = append(answers, got[:cap(got)])
		copies = append(copies, slices.Clone(got[:cap(got)]))
	}
	for range 1000 {
		p.step(r)
	}
	for i := range answers {
		if !slices.Equal(answers[i], copies[i]) {
			t.Fatalf("answer %d: %v, was %v", i, answers[i], copies[i])
		}
		overwrite(answers[i])
		if i+1 < len(answers) && !slices.Equal(answers[i+1], copies[i+1]) {
			t.Fatalf("answer %d was changed by way of the one ahead of it", i+1)
		}
	}
}

// TestWheelStays: R2: the wheel is as it was, whatever is done to an answer.
func TestWheelStays(t *testing.T) {
	r := chance()
	p := newPair(t)
	for range 300 {
		for range 10 {
			p.arm(p.plain.now+r.IntN(200), r.IntN(9))
			p.arm(p.plain.now+someGap(r)%(1<<26), r.IntN(9))
		}
		p.plain.advance(p.plain.now + 50)
		overwrite(p.wheel.Advance(p.plain.now))
		p.look("what was done to an answer")
	}
	p.empty()
}

// TestWheelsBesideEachOther: R6: none is seen in what another one tells.
func TestWheelsBesideEachOther(t *testing.T) {
	r := chance()
	all := []*pair{newPair(t), newPair(t), pairAt(t, 1<<24-3), pairAt(t, 1<<50)}
	for range 20000 {
		all[r.IntN(len(all))].step(r)
	}
	for _, p := range all {
		p.look("calls at others")
		p.empty()
	}
	p := newPair(t)
	if id := p.arm(5, 5); id != 1 {
		t.Errorf("the first number of a new wheel: %d", id)
	}
}

// TestSameCallsSameAnswers: R6: two wheels that are told the same answer the same.
func TestSameCallsSameAnswers(t *testing.T) {
	p, q := newPair(t), newPair(t)
	r, s := chance(), chance()
	for range 5000 {
		p.step(r)
		q.step(s)
	}
	if got, want := p.wheel.Advance(1<<50), q.wheel.Advance(1<<50); !slices.Equal(got, want) {
		t.Errorf("Advance: %v, and of the other: %v", got, want)
	}
}
