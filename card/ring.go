package card

import "slipway/api"

// place is a descriptor. Its room is its own and as long as the longest frame, so that nothing is made while frames come and go.
type place struct {
	card bool
	size int // how many bytes of the room are a frame's; 0: it is empty
	room [api.MaxFrame]byte
}

func (p *place) fill(b []byte) { p.size = copy(p.room[:], b) }

func (p *place) empty() { p.size = 0 }

// bytes hands out a copy, as the room is filled again later; the piece ends where the frame does, so that nothing of an older one behind it goes along.
func (p *place) bytes() []byte {
	piece := p.room[:p.size:p.size]
	b := make([]byte, len(piece))
	copy(b, piece)
	return b
}

type ring struct {
	places []place
	next   int // the card's way round; the driver keeps its own
}

func fits(n int) bool { return n >= 1 && n <= api.MaxRing }

func newRing(n int, card bool) ring {
	r := ring{places: make([]place, n)}
	for i := range r.places {
		r.places[i].card = card
	}
	return r
}

func (r *ring) has(i int) bool { return i >= 0 && i < len(r.places) }

func (r *ring) upcoming() *place { return &r.places[r.next] }

func (r *ring) turn() { r.next = (r.next + 1) % len(r.places) }

func (r *ring) show(i int) (api.Desc, api.Errno) {
	if !r.has(i) {
		return api.Desc{}, api.ErrRing
	}
	p := &r.places[i]
	return api.Desc{Card: p.card, Data: p.bytes()}, api.OK
}
