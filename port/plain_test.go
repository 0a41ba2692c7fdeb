package port_test

import (
	"fmt"
	"math/rand/v2"
	"slices"
	"testing"

	"slipway/api"
	"slipway/dice"
	"slipway/port"
)

// draws is the same row of numbers at each run: a fault that it shows can be looked at again.
func draws() *rand.Rand { return rand.New(rand.NewPCG(13, 1)) }

func someBytes(r *rand.Rand, n int) []byte {
	b := make([]byte, n)
	for i := range b {
		b[i] = byte(r.Uint32())
	}
	return b
}

// text tells all of a datagram: bytes that are the same are the same text, nil or empty.
func text(d api.Datagram) string {
	return fmt.Sprintf("%08x:%d to %08x:%d %x", d.SrcIp, d.SrcPort, d.DstIp, d.DstPort, d.Data)
}

// nothing is the zero datagram's text.
const nothing = "00000000:0 to 00000000:0 "

// plainPort is one of the chapter's: its words, nothing told by another.
type plainPort struct {
	number  int
	waits   []string
	dropped int
}

// plain is a table told line by line: ports in the order in which they were opened, and the draws that are left.
type plain struct {
	most, depth int
	list        []plainPort
	draws       []uint32
}

// place is where the port stands in the list; -1: it isn't open.
func (p *plain) place(n int) int {
	for i := range p.list {
		if p.list[i].number == n {
			return i
		}
	}
	return -1
}

// open is P13.2.
func (p *plain) open(n int) api.Errno {
	if !(n >= 1 && n <= 65535) {
		return 1
	}
	if p.place(n) != -1 {
		return 130
	}
	if len(p.list) >= p.most {
		return 3
	}
	p.list = append(p.list, plainPort{number: n})
	return 0
}

// pick is P13.3, with chapter 6's Port.
func (p *plain) pick() (int, api.Errno) {
	if len(p.list) >= p.most {
		return 0, 3
	}
	draw := uint32(0)
	if len(p.draws) > 0 {
		draw, p.draws = p.draws[0], p.draws[1:]
	}
	for i := range uint32(16384) {
		n := 49152 + int((draw%16384+i)%16384)
		if p.place(n) == -1 {
			p.list = append(p.list, plainPort{number: n})
			return n, 0
		}
	}
	panic("more ports than there may be")
}

// close is P13.4.
func (p *plain) close(n int) bool {
	i := p.place(n)
	if i == -1 {
		return false
	}
	p.list = append(p.list[:i:i], p.list[i+1:]...)
	return true
}

// put and take are P13.5.
func (p *plain) put(d api.Datagram) api.Errno {
	i := p.place(d.DstPort)
	if i == -1 {
		return 131
	}
	if len(p.list[i].waits) >= p.depth {
		p.list[i].dropped++
		return 3
	}
	p.list[i].waits = append(p.list[i].waits, text(d))
	return 0
}

func (p *plain) take(n int) (string, bool) {
	i := p.place(n)
	if i == -1 || len(p.list[i].waits) == 0 {
		return nothing, false
	}
	first := p.list[i].waits[0]
	p.list[i].waits = append([]string{}, p.list[i].waits[1:]...)
	return first, true
}

// look is P13.6: the least number that was not told yet, time and again.
func (p *plain) look() []api.PortState {
	var out []api.PortState
	for last := 0; len(out) < len(p.list); {
		least := -1
		for i, x := range p.list {
			if x.number > last && (least == -1 || x.number < p.list[least].number) {
				least = i
			}
		}
		x := p.list[least]
		last = x.number
		out = append(out, api.PortState{Port: x.number, Waits: len(x.waits), Dropped: x.dropped})
	}
	return out
}

// pair is a table with its dice and what the chapter says of them; behind each call they are held against each other.
type pair struct {
	t     *testing.T
	table *port.Ports
	dice  *dice.Dice
	plain *plain
}

func newPair(t *testing.T, most, depth int, draws ...uint32) *pair {
	t.Helper()
	table := port.New(most, depth)
	if table == nil {
		t.Fatalf("New(%d, %d): nil", most, depth)
	}
	p := &pair{t, table, dice.New(draws), &plain{most: most, depth: depth, draws: slices.Clone(draws)}}
	p.look("a new one")
	return p
}

func (p *pair) open(n int) api.Errno {
	p.t.Helper()
	got, want := p.table.Open(n), p.plain.open(n)
	if got != want {
		p.t.Errorf("Open(%d): %d, want %d", n, got, want)
	}
	p.look(fmt.Sprintf("Open(%d)", n))
	return got
}

func (p *pair) pick() (int, api.Errno) {
	p.t.Helper()
	got, err := p.table.Pick(p.dice)
	want, wantErr := p.plain.pick()
	if got != want || err != wantErr {
		p.t.Errorf("Pick: %d, %d, want %d, %d", got, err, want, wantErr)
	}
	p.look("Pick")
	return got, err
}

func (p *pair) close(n int) bool {
	p.t.Helper()
	got, want := p.table.Close(n), p.plain.close(n)
	if got != want {
		p.t.Errorf("Close(%d): %v, want %v", n, got, want)
	}
	p.look(fmt.Sprintf("Close(%d)", n))
	return got
}

func (p *pair) put(d api.Datagram) api.Errno {
	p.t.Helper()
	got, want := p.table.Put(d), p.plain.put(d)
	if got != want {
		p.t.Errorf("Put(%s): %d, want %d", text(d), got, want)
	}
	p.look(fmt.Sprintf("Put(%s)", text(d)))
	return got
}

func (p *pair) take(n int) (string, bool) {
	p.t.Helper()
	d, some := p.table.Take(n)
	got := text(d)
	if want, wantSome := p.plain.take(n); got != want || some != wantSome {
		p.t.Errorf("Take(%d): %s, %v, want %s, %v", n, got, some, want, wantSome)
	}
	p.look(fmt.Sprintf("Take(%d)", n))
	return got, some
}

// look holds all that can be seen without a call that changes something.
func (p *pair) look(what string) {
	p.t.Helper()
	if got, want := p.table.Look(), p.plain.look(); !slices.Equal(got, want) {
		p.t.Errorf("%s: Look: %v, want %v", what, got, want)
	}
	if got, want := p.dice.Left(), len(p.plain.draws); got != want {
		p.t.Errorf("%s: %d draws left, want %d", what, got, want)
	}
}

// empty takes all that waits anywhere, and holds it against the plain one's.
func (p *pair) empty() {
	p.t.Helper()
	for _, s := range p.table.Look() {
		for range s.Waits + 1 {
			p.take(s.Port)
		}
	}
}

// opened holds Open's answers against OK; puts likewise.
func (p *pair) opened(list ...int) {
	p.t.Helper()
	for _, n := range list {
		if err := p.open(n); err != api.OK {
			p.t.Errorf("Open(%d): %d", n, err)
		}
	}
}

func (p *pair) puts(n int, list ...string) {
	p.t.Helper()
	for _, s := range list {
		p.refuses(n, s, api.OK)
	}
}

// refuses puts a datagram, whose answer a test writes out; the pair alone might have one fault twice.
func (p *pair) refuses(n int, s string, want api.Errno) {
	p.t.Helper()
	if err := p.put(to(n, s)); err != want {
		p.t.Errorf("Put(%d %q): %d, want %d", n, s, err, want)
	}
}

// takes holds what comes out at a port, one behind the other, against what a test writes out.
func (p *pair) takes(n int, list ...string) {
	p.t.Helper()
	for _, s := range list {
		if got, some := p.take(n); got != text(to(n, s)) || !some {
			p.t.Errorf("Take(%d): %s, %v, want %s", n, got, some, text(to(n, s)))
		}
	}
}

// takesNone: nothing waits at these.
func (p *pair) takesNone(list ...int) {
	p.t.Helper()
	for _, n := range list {
		if got, some := p.take(n); got != nothing || some {
			p.t.Errorf("Take(%d): %s, %v", n, got, some)
		}
	}
}

// picks holds Pick's answers, one behind the other, against what a test writes out.
func (p *pair) picks(list ...int) {
	p.t.Helper()
	for _, want := range list {
		if n, err := p.pick(); n != want || err != api.OK {
			p.t.Errorf("Pick: %d, %d, want %d", n, err, want)
		}
	}
}

// has holds all ports against those that a test writes out.
func (p *pair) has(want ...api.PortState) {
	p.t.Helper()
	if got := p.table.Look(); !slices.Equal(got, want) {
		p.t.Errorf("Look: %v, want %v", got, want)
	}
}

// to is a datagram by its port and its bytes, as the chapter's examples write it; its other parts are told by these.
func to(n int, s string) api.Datagram {
	return api.Datagram{SrcIp: 0x0a000001, DstIp: 0x0a000005, SrcPort: n + len(s), DstPort: n, Data: []byte(s)}
}

// is is a port as Look tells it.
func is(n, waits, dropped int) api.PortState {
	return api.PortState{Port: n, Waits: waits, Dropped: dropped}
}
