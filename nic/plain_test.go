package nic_test

import (
	"bytes"
	"fmt"
	"math/rand/v2"
	"testing"

	"slipway/api"
	"slipway/card"
	"slipway/nic"
)

// draws is the same row of numbers at each run: a fault that it shows can be looked at again.
func draws() *rand.Rand { return rand.New(rand.NewPCG(5, 1)) }

// someBytes has no byte 0, so that bytes which were never laid are told from it.
func someBytes(r *rand.Rand, n int) []byte {
	b := make([]byte, n)
	for i := range b {
		b[i] = byte(1 + r.IntN(255))
	}
	return b
}

// filled is n bytes x.
func filled(n int, x byte) []byte { return bytes.Repeat([]byte{x}, n) }

// The chapter's stations, and others about them.
var (
	stationA = api.Mac{2, 0, 0, 0, 0, 10}
	stationB = api.Mac{2, 0, 0, 0, 0, 11}
	group    = api.Mac{1, 0, 0x5e, 0, 0, 1}
	everyone = api.Mac{255, 255, 255, 255, 255, 255}
)

// raw is a frame laid by hand: its head, then as many bytes x as make it size bytes long.
func raw(dst, src api.Mac, kind, size int, x byte) []byte {
	b := append(append([]byte{}, dst[:]...), src[:]...)
	b = append(b, byte(kind>>8), byte(kind))
	for len(b) < size {
		b = append(b, x)
	}
	return b[:size]
}

// plainFor tells whether a station takes bytes off the wire, and the frame, by the bytes' places.
func plainFor(own api.Mac, b []byte) (api.Frame, bool) {
	if len(b) < 60 || len(b) > 1514 || b[12] < 6 || b[6]&1 == 1 {
		return api.Frame{}, false
	}
	f := api.Frame{Dst: api.Mac(b[:6]), Src: api.Mac(b[6:12]), Kind: int(b[12])*256 + int(b[13]), Data: bytes.Clone(b[14:])}
	return f, f.Dst == own || f.Dst == everyone
}

// pair is a driver with its card, and what may be seen of both told plainly: what waits in each ring, first the oldest.
type pair struct {
	t                *testing.T
	card             *card.Card
	nic              *nic.Nic
	own              api.Mac
	rx, tx           int
	waiting, leaving [][]byte
	counts           api.CardCounts
	stats            api.NicStats
}

func newPair(t *testing.T, rx, tx int, own api.Mac) *pair {
	t.Helper()
	c := card.New(rx, tx)
	n := nic.New(c, own)
	if n == nil {
		t.Fatalf("New over a card of %d and %d: nil", rx, tx)
	}
	p := &pair{t: t, card: c, nic: n, own: own, rx: rx, tx: tx}
	p.look("New")
	return p
}

// arrive is the wire's: whether the card took it.
func (p *pair) arrive(b []byte) bool {
	p.t.Helper()
	want := len(b) >= 1 && len(b) <= 1514
	if want && len(p.waiting) == p.rx {
		want = false
		p.counts.Dropped++
	}
	if want {
		p.waiting = append(p.waiting, bytes.Clone(b))
		p.counts.In++
	}
	if got := p.card.Arrive(b); got != want {
		p.t.Errorf("Arrive of %d bytes: %v, want %v", len(b), got, want)
	}
	return want
}

// depart is the wire's: what left, if anything did.
func (p *pair) depart() []byte {
	p.t.Helper()
	var want []byte
	if len(p.leaving) > 0 {
		want, p.leaving = p.leaving[0], p.leaving[1:]
		p.counts.Out++
	}
	if got, ok := p.card.Depart(); ok != (want != nil) || !bytes.Equal(got, want) {
		p.t.Errorf("Depart: % x, %v, want % x", got, ok, want)
	}
	return want
}

func (p *pair) poll(budget int) []api.Frame {
	p.t.Helper()
	var want []api.Frame
	for i := 0; i < budget && len(p.waiting) > 0; i++ {
		if f, ok := plainFor(p.own, p.waiting[0]); ok {
			want = append(want, f)
			p.stats.Taken++
		} else {
			p.stats.Thrown++
		}
		p.waiting = p.waiting[1:]
	}
	got := p.nic.Poll(budget)
	checkFrames(p.t, fmt.Sprintf("Poll(%d)", budget), got, want)
	return got
}

func checkFrames(t *testing.T, call string, got, want []api.Frame) {
	t.Helper()
	if len(got) != len(want) {
		t.Errorf("%s: %d frames, want %d", call, len(got), len(want))
		return
	}
	for i, f := range got {
		w := want[i]
		if f.Dst != w.Dst || f.Src != w.Src || f.Kind != w.Kind || !bytes.Equal(f.Data, w.Data) {
			t.Errorf("%s: frame %d: %+v, want %+v", call, i, f, w)
		}
	}
}

func (p *pair) send(s api.Send) ([]byte, api.Errno) {
	p.t.Helper()
	want, wantErr := p.plainSend(s)
	got, e := p.nic.Send(s)
	if e != wantErr || !bytes.Equal(got, want) {
		p.t.Errorf("Send to %v, kind %d, %d bytes: % x, %d, want % x, %d", s.Dst, s.Kind, len(s.Data), got, e, want, wantErr)
	}
	return got, e
}

func (p *pair) plainSend(s api.Send) ([]byte, api.Errno) {
	p.stats.Refused++
	switch {
	case s.Kind < 1536 || s.Kind > 65535:
		return nil, 30
	case len(s.Data) > 1500:
		return nil, 2
	case len(p.leaving) == p.tx:
		return nil, 3
	}
	p.stats.Refused--
	p.stats.Sent++
	b := append(raw(s.Dst, p.own, s.Kind, 14, 0), s.Data...)
	for len(b) < 60 {
		b = append(b, 0)
	}
	p.leaving = append(p.leaving, b)
	return bytes.Clone(b), 0
}

// look holds all that can be seen of the driver and its card against what was told.
func (p *pair) look(behind string) {
	p.t.Helper()
	if got := p.nic.Own(); got != p.own {
		p.t.Errorf("behind %s: Own: %v, want %v", behind, got, p.own)
	}
	if got := p.nic.Stats(); got != p.stats {
		p.t.Errorf("behind %s: Stats: %+v, want %+v", behind, got, p.stats)
	}
	if got := p.card.Counts(); got != p.counts {
		p.t.Errorf("behind %s: Counts: %+v, want %+v", behind, got, p.counts)
	}
	lookRing(p.t, behind+": Rx", p.card.Rx, p.rx, p.counts.In, p.waiting, true)
	lookRing(p.t, behind+": Tx", p.card.Tx, p.tx, p.stats.Sent, p.leaving, false)
}

// lookRing: of a ring into which so many frames were laid in all the last ones lie there still; free tells whether the card has the other descriptors.
func lookRing(t *testing.T, what string, show func(int) (api.Desc, api.Errno), size, laid int, there [][]byte, free bool) {
	t.Helper()
	want := make([]api.Desc, size)
	for i := range want {
		want[i].Card = free
	}
	for i, b := range there {
		want[(laid-len(there)+i)%size] = api.Desc{Card: !free, Data: b}
	}
	for i, w := range want {
		if d, _ := show(i); d.Card != w.Card || !bytes.Equal(d.Data, w.Data) {
			t.Errorf("behind %s(%d): %v, % x, want %v, % x", what, i, d.Card, d.Data, w.Card, w.Data)
		}
	}
}
