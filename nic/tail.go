package nic

// tail goes round a ring: the number of the descriptor at which the driver looks next, of how many.
type tail struct {
	at, of int
}

func (t *tail) turn() { t.at = (t.at + 1) % t.of }
