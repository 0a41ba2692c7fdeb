package wheel

import (
	"math/rand/v2"
	"slices"
	"testing"
)

// places tells how often each number stands somewhere, and fails where one stands elsewhere than its time asks for.
func places(t *testing.T, w *Wheel) map[int]int {
	t.Helper()
	many := map[int]int{}
	// The chapter's section Ways: four levels of 64 slots each.
	var levels [4][64][]int
	for i := range levels {
		levels[i] = w.levels[i]
	}
	for level, slots := range levels {
		for slot, ids := range slots {
			for _, id := range ids {
				many[id]++
				at := w.timers[id].at
				if at>>(6*level+6) != w.now>>(6*level+6) || at>>(6*level)&63 != slot || level > 0 && at>>(6*level) == w.now>>(6*level) {
					t.Fatalf("at %d: %d, of the time %d, stands on level %d in slot %d", w.now, id, at, level, slot)
				}
			}
		}
	}
	for i, id := range w.far.ids {
		many[id]++
		if at := w.timers[id].at; at>>24 == w.now>>24 {
			t.Fatalf("at %d: %d, of the time %d, stands beyond", w.now, id, at)
		}
		if i > 0 && w.before(id, w.far.ids[(i-1)/2]) {
			t.Fatalf("%d stands beyond behind %d", id, w.far.ids[(i-1)/2])
		}
	}
	return many
}

// TestPlaces: the chapter's section Ways, and that no number is kept which isn't needed any more: each timer's stands in one place, and none else does.
func TestPlaces(t *testing.T) {
	r := rand.New(rand.NewPCG(7, 2))
	w := New()
	for range 20000 {
		switch r.IntN(5) {
		case 0, 1:
			w.Arm(w.now+int(r.Uint64()>>(14+r.IntN(50))), 0)
		case 2:
			w.Cancel(1 + r.IntN(w.last+1))
		case 3:
			w.Advance(w.now + int(r.Uint64()>>(36+r.IntN(28))))
		case 4:
			if n := len(w.far.ids); n > 0 {
				w.Cancel(w.far.ids[r.IntN(n)])
			}
		}
		many := places(t, w)
		if len(many) != len(w.timers) {
			t.Fatalf("%d numbers for %d timers", len(many), len(w.timers))
		}
		for id := range w.timers {
			if many[id] != 1 {
				t.Fatalf("%d stands in %d places", id, many[id])
			}
		}
	}
}

// TestHeap: a heap keeps the order that it is told, also where it isn't that of the numbers.
func TestHeap(t *testing.T) {
	r := rand.New(rand.NewPCG(7, 3))
	for many := range 60 {
		order := r.Perm(many)
		h := newHeap(func(a, b int) bool { return order[a] < order[b] })
		var want []int
		for id := range many {
			h.push(id)
			want = append(want, id)
		}
		for range many / 3 {
			id := want[r.IntN(len(want))]
			h.remove(id)
			want = slices.DeleteFunc(want, func(n int) bool { return n == id })
		}
		slices.SortFunc(want, func(a, b int) int { return order[a] - order[b] })
		for _, id := range want {
			if got := h.pop(); got != id {
				t.Fatalf("pop: %d, want %d", got, id)
			}
		}
		if len(h.ids) != 0 {
			t.Errorf("%d numbers are left", len(h.ids))
		}
	}
}
