package lease_test

import (
	"bytes"
	"slices"
	"testing"

	"slipway/api"
	"slipway/dice"
	"slipway/lease"
)

// overwrite fills bytes and the spare room behind them.
func overwrite(b []byte) {
	b = b[:cap(b)]
	for i := range b {
		b[i] = 0xee
	}
}

// spoilOptions fills options, their bytes, and all spare room.
func spoilOptions(l []api.Option) {
	l = l[:cap(l)]
	for i := range l {
		overwrite(l[i].Data)
		l[i] = opt(0xee, 0xee, 0xee)
	}
}

// spoil fills what was answered, and the spare room behind each list of it.
func spoil(l []api.LeaseAct) {
	l = l[:cap(l)]
	for i := range l {
		spoilOptions(l[i].Msg.Options)
		l[i] = api.LeaseAct{Kind: 0xee, From: 0xee, To: 0xee, Msg: api.Bootp{Op: 0xee}, Lease: api.Lease{Ip: 0xee, File: "spoilt"}}
	}
}

// roomy is a message with other bytes and options behind its own in the same memory.
func roomy(m api.Bootp) api.Bootp {
	var l []api.Option
	for _, o := range m.Options {
		data := append(bytes.Clone(o.Data), 1, 2, 3, 4, 5, 6, 7, 8)
		l = append(l, api.Option{Code: o.Code, Data: data[:len(o.Data)]})
	}
	m.Options = append(l, opt(99, 1), opt(98, 2), opt(97, 3))[:len(l)]
	return m
}

// whole is all that can be reached from options, the spare room with it, as new memory.
func whole(l []api.Option) []api.Option {
	var c []api.Option
	for _, o := range l[:cap(l)] {
		c = append(c, opt(o.Code, bytes.Clone(o.Data[:cap(o.Data)])...))
	}
	return c
}

func sameOptions(a, b []api.Option) bool {
	return slices.EqualFunc(a, b, func(x, y api.Option) bool { return x.Code == y.Code && bytes.Equal(x.Data, y.Data) })
}

// hand hands a message in, looks whether it is left as it was, and changes it behind the call.
func hand(p *pair, m api.Bootp, now int) []api.LeaseAct {
	p.t.Helper()
	m = roomy(m)
	was := whole(m.Options)
	got := p.on(m, now)
	if !sameOptions(whole(m.Options), was) {
		p.t.Errorf("a message was changed: %v, not %v", whole(m.Options), was)
	}
	spoilOptions(m.Options)
	p.look("a message that was changed behind the call")
	return got
}

// TestMessagesAreLeft: P18.9 with R2: a message is neither changed nor kept, nor the room behind its parts, whatever is made of it.
func TestMessagesAreLeft(t *testing.T) {
	named := with(67, []byte("a file's name")...)
	p := newPair(t, nines()...)
	p.start(1000)
	hand(p, answer(isOffer, 7, secs(0)), 1001)
	p.saw(hand(p, answer(isOffer, 7, named), asked), requestOffer(station, 7, 2, us, them))
	l := offered()
	l.File = "a file's name"
	p.has(inRequesting, 7, l, 1, 1050)
	p.saw(p.tick(1050), requestOffer(station, 7, 5, us, them))
	l = since(l, asked)
	l.T1 = asked + 200
	p.saw(hand(p, answer(isAck, 7, named, with(58, four(20)...), with(59, 1, 2, 3)), 1051), probes(l))
	p.saw(p.tick(1061), adopts(l))
	p.tick(1520)
	l = theLease(p.plain.began)
	l.File = "another one"
	p.saw(hand(p, answer(isAck, p.plain.xid, with(67, []byte("another one")...)), 1521), adopts(l))
	p.saw(p.clash(us, 1522), drops(l), decline(station, 9, us, them))
	p = reach(t, inRenewing)
	p.saw(hand(p, answer(isNak, 9), 1521), drops(theLease(asked)))
}

// TestActsAreNewMemory: P18.9 with R2: whatever is done to acts and to their spare room, what comes later is as it should be.
func TestActsAreNewMemory(t *testing.T) {
	for state := range manyReached {
		p := reach(t, state)
		for i := range 40 {
			now := p.plain.now
			if due := p.plain.due; due != -1 && i%2 == 0 {
				now = due
			}
			var got []api.LeaseAct
			switch i % 8 {
			case 3:
				got = p.on(answer(isOffer, p.plain.xid), now)
			case 5:
				got = p.on(answer(isAck, p.plain.xid), now)
			case 7:
				got = p.clash(us, now)
			default:
				got = p.tick(now)
			}
			spoil(got)
			p.look("acts that were changed")
		}
		spoil(p.start(p.plain.now))
		p.look("acts that were changed")
	}
}

// TestActsAreApart: R2: no two lists of one answer, nor of two answers, share memory.
func TestActsAreApart(t *testing.T) {
	p := reach(t, inSelecting)
	list := p.on(answer(isOffer, 7), 1030)
	list = append(list, p.tick(p.plain.due)...)
	list = append(list, p.tick(p.plain.due)...)
	list = append(list, p.on(answer(isAck, 7), p.plain.due)...)
	list = append(list, p.tick(p.plain.due)...)
	list = append(list, p.clash(us, p.plain.due)...)
	if len(list) < 8 {
		t.Fatalf("%d acts", len(list))
	}
	was := texts(list)
	for i := range list {
		for k := range list[i].Msg.Options {
			kept := list[i].Msg.Options[k]
			data := bytes.Clone(kept.Data)
			overwrite(kept.Data)
			if got := texts(list); !slices.Equal(got[:i], was[:i]) || !slices.Equal(got[i+1:], was[i+1:]) {
				t.Fatalf("act %d shares an option's bytes with another one", i)
			}
			copy(kept.Data, data)
			list[i].Msg.Options[k] = opt(0xee, 0xee)
			_ = append(list[i].Msg.Options, opt(0xee, 0xee))
			if got := texts(list); !slices.Equal(got[:i], was[:i]) || !slices.Equal(got[i+1:], was[i+1:]) {
				t.Fatalf("act %d shares its options with another one", i)
			}
			list[i].Msg.Options[k] = kept
		}
		for k, o := range list[i].Msg.Options {
			for n := range k {
				_ = append(list[i].Msg.Options[n].Data, 0xee)
			}
			if text(list[i]) != was[i] {
				t.Fatalf("act %d: option %d shares memory with another one", i, o.Code)
			}
		}
	}
}

// TestStateIsACopy: R2: what State and Held tell may be changed.
func TestStateIsACopy(t *testing.T) {
	for state := range manyReached {
		p := reach(t, state)
		s := p.client.State()
		s.Lease.Ip, s.Lease.Until, s.Due = 1, 2, 3
		l, _ := p.client.Held()
		l.Ip, l.File = 4, "x"
		p.look("what was told was changed")
	}
}

// TestTwoClients: R6: what is done to one is not seen in another, of the same station and of another one.
func TestTwoClients(t *testing.T) {
	r := numbers()
	a, b := newPair(t, nines()...), newPair(t, nines()...)
	b.client = lease.New(another)
	b.plain.own = another
	c := newPair(t, nines()...)
	for range 3000 {
		[]*pair{a, b, c}[r.IntN(3)].step(r)
		a.look("a call on any client")
		b.look("a call on any client")
		c.look("a call on any client")
	}
}

// TestOneDice: R6: two clients over one dice use its draws as they come.
func TestOneDice(t *testing.T) {
	d := dice.New([]uint32{1, 0, 2, 0, 3, 0})
	a, b := lease.New(station), lease.New(another)
	got := slices.Concat(a.Start(0, d), b.Start(0, d), a.Start(0, d))
	want := []api.LeaseAct{discover(station, 1, 0), discover(another, 2, 0), discover(station, 3, 0)}
	if g, w := texts(got), texts(want); !slices.Equal(g, w) {
		t.Errorf("%q, want %q", g, w)
	}
	if d.Left() != 0 || a.State().Xid != 3 || b.State().Xid != 2 {
		t.Errorf("%d draws left, Xids %d, %d", d.Left(), a.State().Xid, b.State().Xid)
	}
}
