package wheel

import "slices"

// heap has numbers of timers, the first one in front. What they stand for it knows by first alone, which says whether a comes ahead of b.
type heap struct {
	first func(a, b int) bool
	ids   []int
}

func newHeap(first func(a, b int) bool) heap { return heap{first: first} }

func (h *heap) push(id int) {
	h.ids = append(h.ids, id)
	h.rise(len(h.ids) - 1)
}

func (h *heap) pop() int {
	id := h.ids[0]
	h.drop(0)
	return id
}

// remove must be told a number that is there, and while first still knows it.
func (h *heap) remove(id int) { h.drop(slices.Index(h.ids, id)) }

// drop lays the last one into the place that becomes free: it may belong above it or below it.
func (h *heap) drop(i int) {
	last := len(h.ids) - 1
	h.ids[i] = h.ids[last]
	h.ids = h.ids[:last]
	if i < last {
		h.sink(i)
		h.rise(i)
	}
}

func (h *heap) rise(i int) {
	for i > 0 {
		above := (i - 1) / 2
		if !h.first(h.ids[i], h.ids[above]) {
			return
		}
		h.swap(i, above)
		i = above
	}
}

func (h *heap) sink(i int) {
	for {
		least := i
		for _, below := range [2]int{2*i + 1, 2*i + 2} {
			if below < len(h.ids) && h.first(h.ids[below], h.ids[least]) {
				least = below
			}
		}
		if least == i {
			return
		}
		h.swap(i, least)
		i = least
	}
}

func (h *heap) swap(i, j int) { h.ids[i], h.ids[j] = h.ids[j], h.ids[i] }
