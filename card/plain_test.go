package card_test

import (
	"bytes"
	"fmt"
	"math/rand/v2"
	"testing"

	"slipway/api"
	"slipway/card"
)

// draws is the same row of numbers at each run: a fault that it shows can be looked at again.
func draws() *rand.Rand { return rand.New(rand.NewPCG(4, 1)) }

// someBytes has no byte 0, so that bytes which were never laid are told from it.
func someBytes(r *rand.Rand, n int) []byte {
	b := make([]byte, n)
	for i := range b {
		b[i] = byte(1 + r.IntN(255))
	}
	return b
}

// filled is n bytes x.
func filled(n int, x byte) []byte { return bytes.Repeat([]byte{x}, n) }

// plain is a card told as the chapter tells it, by lists of what can be seen of it.
type plain struct {
	rx, tx         []api.Desc
	nextRx, nextTx int
	counts         api.CardCounts
}

func newPlain(rx, tx int) *plain {
	p := &plain{tx: make([]api.Desc, tx)}
	for range rx {
		p.rx = append(p.rx, api.Desc{Card: true})
	}
	return p
}

func (p *plain) arrive(b []byte) bool {
	if len(b) < 1 || len(b) > 1514 {
		return false
	}
	if !p.rx[p.nextRx].Card {
		p.counts.Dropped++
		return false
	}
	p.rx[p.nextRx] = api.Desc{Data: bytes.Clone(b)}
	if p.nextRx++; p.nextRx == len(p.rx) {
		p.nextRx = 0
	}
	p.counts.In++
	return true
}

func (p *plain) depart() ([]byte, bool) {
	d := p.tx[p.nextTx]
	if !d.Card {
		return nil, false
	}
	p.tx[p.nextTx] = api.Desc{}
	if p.nextTx++; p.nextTx == len(p.tx) {
		p.nextTx = 0
	}
	p.counts.Out++
	return d.Data, true
}

func (p *plain) give(i int) api.Errno {
	switch {
	case i < 0 || i >= len(p.rx):
		return 40
	case p.rx[i].Card:
		return 41
	}
	p.rx[i] = api.Desc{Card: true}
	return 0
}

func (p *plain) lay(i int, b []byte) api.Errno {
	switch {
	case i < 0 || i >= len(p.tx):
		return 40
	case len(b) < 60:
		return 5
	case len(b) > 1514:
		return 2
	case p.tx[i].Card:
		return 41
	}
	p.tx[i] = api.Desc{Card: true, Data: bytes.Clone(b)}
	return 0
}

// pair is a card with a plain one beside it that is told the same.
type pair struct {
	t     *testing.T
	card  *card.Card
	plain *plain
}

func newPair(t *testing.T, rx, tx int) *pair {
	t.Helper()
	c := card.New(rx, tx)
	if c == nil {
		t.Fatalf("New(%d, %d): nil", rx, tx)
	}
	p := &pair{t, c, newPlain(rx, tx)}
	p.look("New")
	return p
}

func (p *pair) arrive(b []byte) bool {
	p.t.Helper()
	got, want := p.card.Arrive(b), p.plain.arrive(b)
	if got != want {
		p.t.Errorf("Arrive of %d bytes: %v, want %v", len(b), got, want)
	}
	return want
}

func (p *pair) depart() ([]byte, bool) {
	p.t.Helper()
	b, ok := p.card.Depart()
	want, wantOk := p.plain.depart()
	if ok != wantOk || !bytes.Equal(b, want) {
		p.t.Errorf("Depart: % x, %v, want % x, %v", b, ok, want, wantOk)
	}
	return want, wantOk
}

func (p *pair) give(i int) api.Errno {
	p.t.Helper()
	got, want := p.card.Give(i), p.plain.give(i)
	if got != want {
		p.t.Errorf("Give(%d): %d, want %d", i, got, want)
	}
	return want
}

func (p *pair) lay(i int, b []byte) api.Errno {
	p.t.Helper()
	got, want := p.card.Lay(i, b), p.plain.lay(i, b)
	if got != want {
		p.t.Errorf("Lay(%d, %d bytes): %d, want %d", i, len(b), got, want)
	}
	return want
}

// look holds all that can be seen of the card against the plain one.
func (p *pair) look(behind string) {
	p.t.Helper()
	if rx, tx := p.card.Rings(); rx != len(p.plain.rx) || tx != len(p.plain.tx) {
		p.t.Errorf("behind %s: Rings: %d, %d, want %d, %d", behind, rx, tx, len(p.plain.rx), len(p.plain.tx))
	}
	if got := p.card.Counts(); got != p.plain.counts {
		p.t.Errorf("behind %s: Counts: %+v, want %+v", behind, got, p.plain.counts)
	}
	for i, want := range p.plain.rx {
		d, e := p.card.Rx(i)
		checkDesc(p.t, fmt.Sprintf("behind %s: Rx(%d)", behind, i), d, e, want)
	}
	for i, want := range p.plain.tx {
		d, e := p.card.Tx(i)
		checkDesc(p.t, fmt.Sprintf("behind %s: Tx(%d)", behind, i), d, e, want)
	}
}

func checkDesc(t *testing.T, call string, d api.Desc, e api.Errno, want api.Desc) {
	t.Helper()
	if e != api.OK || d.Card != want.Card || !bytes.Equal(d.Data, want.Data) {
		t.Errorf("%s: %v, % x, %d, want %v, % x", call, d.Card, d.Data, e, want.Card, want.Data)
	}
}
