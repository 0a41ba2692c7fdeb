package wheel

import "slices"

// The levels. A slot is as long as all slots of the level below it; a level's slots are those of the one slot of the level above it in which now lies, so that whatever stands on a level is ahead of whatever stands above it.
const (
	lowest  = iota // slots of one tick
	lower          // of 64
	higher         // of 64 * 64
	highest        // of 64 * 64 * 64
	beyond         // none: what lies further ahead than the highest level's slots reach
)

const (
	slotBits  = 6
	manySlots = 1 << slotBits
)

// slots are a level's, each with numbers of timers. In a slot those of one time rise: a number that is new is above all others, and what is taken from a slot or from the heap is laid, in order, onto levels that are empty.
type slots [manySlots][]int

// levelOf is the lowest level on which one slot of the level above it has both times.
func levelOf(now, at int) int {
	level := lowest
	for level < beyond && startOf(now, level+1) != startOf(at, level+1) {
		level++
	}
	return level
}

func slotOf(at, level int) int { return (at >> (slotBits * level)) % manySlots }

// startOf is the beginning of the slot in which a time lies; beyond, of the stretch that all levels together reach.
func startOf(at, level int) int { return at &^ (1<<(slotBits*level) - 1) }

func (w *Wheel) file(id int) {
	at := w.timers[id].at
	level := levelOf(w.now, at)
	if level == beyond {
		w.far.push(id)
		return
	}
	slot := &w.levels[level][slotOf(at, level)]
	*slot = append(*slot, id)
}

func (w *Wheel) unfile(id int) {
	at := w.timers[id].at
	level := levelOf(w.now, at)
	if level == beyond {
		w.far.remove(id)
		return
	}
	slot := &w.levels[level][slotOf(at, level)]
	i := slices.Index(*slot, id)
	*slot = slices.Delete(*slot, i, i+1)
}

// upcoming is a level, and a timer of the slot there that has the first timer; beyond, the first timer itself. There must be one.
func (w *Wheel) upcoming() (int, int) {
	for level := range beyond {
		for slot := range manySlots {
			if ids := w.levels[level][slot]; len(ids) > 0 {
				return level, ids[0]
			}
		}
	}
	return beyond, w.far.ids[0]
}

// take empties the slot in which now lies; beyond, it takes what the levels reach by now.
func (w *Wheel) take(level int) []int {
	if level == beyond {
		return w.takeFar()
	}
	slot := &w.levels[level][slotOf(w.now, level)]
	ids := *slot
	*slot = nil
	return ids
}

func (w *Wheel) takeFar() []int {
	var ids []int
	for len(w.far.ids) > 0 && levelOf(w.now, w.timers[w.far.ids[0]].at) < beyond {
		ids = append(ids, w.far.pop())
	}
	return ids
}
