package port

import "slices"

// queue is a row of things: the first one that was added is the first one that is taken.
type queue[T any] struct {
	items []T
}

func (q *queue[T]) size() int { return len(q.items) }

func (q *queue[T]) add(item T) { q.items = append(q.items, item) }

// take moves the others up, so that the room of what was taken is used again and the queue keeps nothing of it.
func (q *queue[T]) take() (T, bool) {
	if q.size() == 0 {
		var none T
		return none, false
	}
	first := q.items[0]
	q.items = slices.Delete(q.items, 0, 1)
	return first, true
}
