package lease_test

import (
	"fmt"
	"math/rand/v2"
	"slices"
	"testing"

	"slipway/api"
	"slipway/dice"
	"slipway/lease"
	"slipway/route"
)

var (
	station = api.Mac{2, 0, 0, 0, 0, 1} // the own one
	another = api.Mac{2, 0, 0, 0, 0, 2}
)

const (
	us    = 0x0a000005
	them  = 0x0a000001
	third = 0x0a000002 // another server
)

// numbers is the same row at each run: a fault that it shows can be looked at again.
func numbers() *rand.Rand { return rand.New(rand.NewPCG(18, 1)) }

func opt(code int, data ...byte) api.Option { return api.Option{Code: code, Data: data} }

func four(n uint32) []byte { return []byte{byte(n >> 24), byte(n >> 16), byte(n >> 8), byte(n)} }

func long(code int, n uint32) api.Option { return opt(code, four(n)...) }

// ask is what is the same in all that a client sends.
func ask(from, to uint32, mac api.Mac, xid uint32, secs int, l ...api.Option) api.LeaseAct {
	return api.LeaseAct{Kind: 1, From: from, To: to, Msg: api.Bootp{Op: 1, Xid: xid, Secs: secs, All: true, Ci: from, Mac: mac, Options: l}}
}

func discover(mac api.Mac, xid uint32, secs int) api.LeaseAct {
	return ask(0, everyone, mac, xid, secs, opt(53, 1))
}

func requestOffer(mac api.Mac, xid uint32, secs int, ip, server uint32) api.LeaseAct {
	return ask(0, everyone, mac, xid, secs, opt(53, 3), long(50, ip), long(54, server))
}

func requestHeld(mac api.Mac, xid uint32, secs int, ip, to uint32) api.LeaseAct {
	return ask(ip, to, mac, xid, secs, opt(53, 3))
}

func decline(mac api.Mac, xid uint32, ip, server uint32) api.LeaseAct {
	return ask(0, everyone, mac, xid, 0, opt(53, 4), long(50, ip), long(54, server))
}

func probes(l api.Lease) api.LeaseAct { return api.LeaseAct{Kind: 2, Lease: l} }

func adopts(l api.Lease) api.LeaseAct { return api.LeaseAct{Kind: 3, Lease: l} }

func drops(l api.Lease) api.LeaseAct { return api.LeaseAct{Kind: 4, Lease: l} }

// text tells all of an act; bytes that are the same are the same text, nil or empty.
func text(a api.LeaseAct) string {
	return fmt.Sprintf("%d from %08x to %08x, lease %+v, file %q, message %+v", a.Kind, a.From, a.To, a.Lease, a.Lease.File, a.Msg)
}

func texts(l []api.LeaseAct) []string {
	var out []string
	for _, a := range l {
		out = append(out, text(a))
	}
	return out
}

// turn changes a message.
type turn func(m *api.Bootp)

// with lays an option in place of that of its code, or behind all.
func with(code int, data ...byte) turn {
	return func(m *api.Bootp) {
		for i, o := range m.Options {
			if o.Code == code {
				m.Options[i] = opt(code, data...)
				return
			}
		}
		m.Options = append(m.Options, opt(code, data...))
	}
}

func withLong(code int, n uint32) turn { return with(code, four(n)...) }

// behind lays an option behind all, whatever is there.
func behind(code int, data ...byte) turn {
	return func(m *api.Bootp) { m.Options = append(m.Options, opt(code, data...)) }
}

func without(code int) turn {
	return func(m *api.Bootp) {
		m.Options = slices.DeleteFunc(m.Options, func(o api.Option) bool { return o.Code == code })
	}
}

func withYi(ip uint32) turn { return func(m *api.Bootp) { m.Yi = ip } }

func withSi(ip uint32) turn { return func(m *api.Bootp) { m.Si = ip } }

func withFile(s string) turn { return func(m *api.Bootp) { m.File = s } }

func secs(n uint32) turn { return withLong(51, n) }

// answer is the examples' message of a type, with what is turned in it.
func answer(kind byte, xid uint32, turns ...turn) api.Bootp {
	m := api.Bootp{Op: 2, Xid: xid, Mac: station, Yi: us, Options: []api.Option{opt(53, kind), long(54, them), long(51, 100), long(1, 0xffffff00), long(3, them)}}
	for _, f := range turns {
		f(&m)
	}
	return m
}

const (
	isOffer = 2
	isAck   = 5
	isNak   = 6
)

// theLease is the examples' lease, from a time on.
func theLease(from int) api.Lease {
	return api.Lease{Ip: us, Mask: 0xffffff00, Router: them, Server: them, Next: them, From: from, T1: from + 500, T2: from + 875, Until: from + 1000}
}

// offered is that lease as it is offered.
func offered() api.Lease {
	return api.Lease{Ip: us, Mask: 0xffffff00, Router: them, Server: them, Next: them}
}

// pair is a client and what the chapter says of it: behind each call they are held against each other.
type pair struct {
	t      *testing.T
	client *lease.Client
	dice   *dice.Dice
	plain  *plain
}

func newPair(t *testing.T, draws ...uint32) *pair {
	t.Helper()
	p := &pair{t, lease.New(station), dice.New(draws), newPlain(station, slices.Clone(draws))}
	p.look("New")
	return p
}

func (p *pair) start(now int) []api.LeaseAct {
	p.t.Helper()
	got := p.client.Start(now, p.dice)
	p.plain.start(now)
	return p.check(fmt.Sprintf("Start(%d)", now), got)
}

func (p *pair) tick(now int) []api.LeaseAct {
	p.t.Helper()
	got := p.client.Tick(now, p.dice)
	p.plain.tick(now)
	return p.check(fmt.Sprintf("Tick(%d)", now), got)
}

func (p *pair) on(m api.Bootp, now int) []api.LeaseAct {
	p.t.Helper()
	got := p.client.On(them, m, now, p.dice)
	p.plain.on(m, now)
	return p.check(fmt.Sprintf("On(%+v, %d)", m, now), got)
}

func (p *pair) clash(ip uint32, now int) []api.LeaseAct {
	p.t.Helper()
	got := p.client.Clash(ip, now, p.dice)
	p.plain.clash(ip, now)
	return p.check(fmt.Sprintf("Clash(%08x, %d)", ip, now), got)
}

// check holds what a call answered, and all that it left; the first fault ends the test, as all behind it would be one.
func (p *pair) check(what string, got []api.LeaseAct) []api.LeaseAct {
	p.t.Helper()
	want := p.plain.acts
	p.plain.acts = nil
	if g, w := texts(got), texts(want); !slices.Equal(g, w) {
		p.t.Fatalf("%s: %q, want %q", what, g, w)
	}
	for _, a := range got {
		if a.Kind == 3 && route.New().Set(a.Lease.Ip, a.Lease.Mask, a.Lease.Router) != api.OK {
			p.t.Fatalf("%s: no table takes what was adopted: %+v", what, a.Lease)
		}
	}
	p.look(what)
	return got
}

// look holds all that can be seen without a call that tells the time (P18.6), and how many draws are left.
func (p *pair) look(what string) {
	p.t.Helper()
	want := api.LeaseState{State: p.plain.state, Xid: p.plain.xid, Lease: p.plain.lease, Tries: p.plain.tries, Due: p.plain.due}
	if got := p.client.State(); got != want {
		p.t.Fatalf("%s: State: %+v, want %+v", what, got, want)
	}
	wantAt, some := want.Due, true
	if want.Due == -1 {
		wantAt, some = 0, false
	}
	if at, is := p.client.Next(); at != wantAt || is != some {
		p.t.Fatalf("%s: Next: %d, %v, want %d, %v", what, at, is, wantAt, some)
	}
	wantLease := api.Lease{}
	if p.plain.isHeld() {
		wantLease = want.Lease
	}
	if l, is := p.client.Held(); l != wantLease || is != p.plain.isHeld() {
		p.t.Fatalf("%s: Held: %+v, %v, want %+v, %v", what, l, is, wantLease, p.plain.isHeld())
	}
	if got := p.dice.Left(); got != len(p.plain.draws) {
		p.t.Fatalf("%s: %d draws are left, want %d", what, got, len(p.plain.draws))
	}
}

// saw holds acts against those that a test writes out; the pair alone might have one fault twice.
func (p *pair) saw(got []api.LeaseAct, want ...api.LeaseAct) {
	p.t.Helper()
	if g, w := texts(got), texts(want); !slices.Equal(g, w) {
		p.t.Errorf("%q, want %q", g, w)
	}
}

// has holds the state against one that a test writes out.
func (p *pair) has(state int, xid uint32, l api.Lease, tries, due int) {
	p.t.Helper()
	want := api.LeaseState{State: state, Xid: xid, Lease: l, Tries: tries, Due: due}
	if got := p.client.State(); got != want {
		p.t.Errorf("State: %+v, want %+v", got, want)
	}
}

// stands holds the state's number and Due alone.
func (p *pair) stands(state, due int) {
	p.t.Helper()
	if got := p.client.State(); got.State != state || got.Due != due {
		p.t.Errorf("state %d, Due %d, want %d, %d", got.State, got.Due, state, due)
	}
}

// nothing: a call had no acts, used no draw and left all as it was.
func (p *pair) nothing(call func() []api.LeaseAct) {
	p.t.Helper()
	was, left := p.client.State(), p.dice.Left()
	if got := call(); len(got) != 0 || p.client.State() != was || p.dice.Left() != left {
		p.t.Errorf("acts %q, state %+v, %d draws left; want none, %+v, %d", texts(got), p.client.State(), p.dice.Left(), was, left)
	}
}

// nines are the draws of the examples.
func nines() []uint32 {
	l := []uint32{7, 0, 0}
	for range 60 {
		l = append(l, 9)
	}
	return l
}

// The states, by the chapter's numbers.
const (
	inInit = iota
	inSelecting
	inRequesting
	inProbing
	inBound
	inRenewing
	inRebinding
	rested // LeaseInit behind a Nak: the question stays, and there is a Due
	manyReached
)

// xids are the questions' behind reach, dues what is due there.
var (
	xids = [manyReached]uint32{0, 7, 7, 7, 7, 9, 9, 7}
	dues = [manyReached]int{-1, 1030, 1050, 1035, 1520, 1895, 2020, 1125}
)

// asked is when the first Request goes out behind reach: from then on the lease is given.
const asked = 1020

// reach is a pair in a state, with the examples' lease, or one that is turned.
func reach(t *testing.T, state int, turns ...turn) *pair {
	t.Helper()
	p := newPair(t, nines()...)
	steps := []func(){
		func() { p.start(1000) },
		func() { p.on(answer(isOffer, 7, turns...), asked) },
		func() { p.on(answer(isAck, 7, turns...), 1025) },
		func() { p.tick(p.plain.due) },
		func() { p.tick(p.plain.due) },
		func() { p.tick(p.plain.lease.T2) },
	}
	many := state
	if state == rested {
		many = inRequesting
	}
	for _, step := range steps[:many] {
		step()
	}
	if state == rested {
		p.on(answer(isNak, 7), 1025)
	}
	if got := p.client.State().State; got != state%rested {
		t.Fatalf("state %d, want %d", got, state)
	}
	return p
}
