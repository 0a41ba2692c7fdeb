package neigh_test

import (
	"bytes"
	"testing"

	"slipway/api"
	"slipway/neigh"
)

// overwrite fills bytes and the spare room behind them.
func overwrite(b []byte) {
	b = b[:cap(b)]
	for i := range b {
		b[i] = 0xee
	}
}

// spoil fills what was answered, and the spare room behind each list of it.
func spoil(list []api.Send) {
	for _, s := range list {
		overwrite(s.Data)
	}
	list = list[:cap(list)]
	for i := range list {
		list[i] = api.Send{Dst: api.Mac{0xee}, Kind: 0xee, Data: []byte{0xee}}
	}
}

// TestLeavesPacket: P11.7 with R2: neither a packet nor the room behind it is changed, then or by what comes later.
func TestLeavesPacket(t *testing.T) {
	for _, n := range []int{0, 1, 28, 100} {
		room := someBytes(draws(), n+200)
		was := bytes.Clone(room)
		c := neigh.New(stationA, 2)
		spoil(c.Ask(ours, net+1, room[:n], 0))
		spoil(c.Ask(ours, net+1, room[:n], 1))
		spoil(c.Tick(10))
		spoil(c.On(asks(stationB, net+1, ours), ours, 11))
		spoil(c.Ask(ours, net+1, room[:n], 12))
		spoil(c.Ask(ours, net+1, []byte("another"), 13))
		if !bytes.Equal(room, was) {
			t.Errorf("a packet of %d bytes, or the room behind it, was changed", n)
		}
	}
}

// TestKeepsNoPacket: P11.7 with R2: what waits doesn't hang on what is done to the packet behind the call, be it the first one or one in its place.
func TestKeepsNoPacket(t *testing.T) {
	for _, n := range []int{0, 1, 28, 100} {
		p := newPair(t, stationA, 2)
		room := someBytes(draws(), n+200)
		first := bytes.Clone(room[:n])
		p.ask(ours, net+1, room[:n], 0)
		p.ask(ours, net+2, []byte("x"), 0)
		p.ask(ours, net+2, room[:n], 1)
		overwrite(room)
		p.saw(p.on(told(stationB, net+1), ours, 2), packet(stationB, first))
		p.saw(p.on(told(stationB, net+2), ours, 2), packet(stationB, first))
	}
}

// TestKnownPacketIsNewMemory: P11.7 with R2: what is sent on at once shares nothing with what was handed in.
func TestKnownPacketIsNewMemory(t *testing.T) {
	c := neigh.New(stationA, 1)
	c.On(asks(stationB, net+1, ours), ours, 0)
	for _, n := range []int{1, 28, 100} {
		room := someBytes(draws(), n+200)
		was := bytes.Clone(room[:n])
		got := c.Ask(ours, net+1, room[:n], 1)
		overwrite(room)
		if len(got) != 1 || !bytes.Equal(got[0].Data, was) {
			t.Fatalf("a packet of %d bytes: %v", n, got)
		}
		again := c.Ask(ours, net+1, was, 1)
		spoil(got)
		if len(again) != 1 || !bytes.Equal(again[0].Data, was) {
			t.Errorf("two answers share memory: %v", again)
		}
	}
}

// TestAnswersAreNewMemory: P11.7 with R2: whatever is done to answers and to their spare room, what comes later is as it should be.
func TestAnswersAreNewMemory(t *testing.T) {
	r := draws()
	for range 50 {
		c, other := neigh.New(stationA, 3), newPair(t, stationA, 3)
		for range 60 {
			now := other.someTime(r)
			ip := someAddress(r)
			var got []api.Send
			var want []string
			switch r.IntN(3) {
			case 0:
				data := someBytes(r, 3)
				got, want = c.Ask(ours, ip, data, now), other.ask(ours, ip, data, now)
			case 1:
				m := asks(someStation(r), ip, ours)
				got, want = c.On(m, ours, now), other.on(m, ours, now)
			default:
				got, want = c.Tick(now), other.tick(now)
			}
			other.saw(sends(got), want...)
			spoil(got)
			list := c.Look()
			other.has(list...)
			list = list[:cap(list)]
			for i := range list {
				list[i] = api.Neigh{Ip: 0xeeeeeeee, Until: -7}
			}
			other.has(c.Look()...)
		}
	}
}

// TestPartsOfAnAnswerAreApart: P11.7 with R2: no two lists of one answer share memory.
func TestPartsOfAnAnswerAreApart(t *testing.T) {
	c := neigh.New(stationA, 3)
	for i := range uint32(3) {
		c.Ask(ours, net+i, []byte("packet"), 0)
	}
	got := c.Tick(10)
	if len(got) != 3 {
		t.Fatalf("Tick: %v", got)
	}
	got = append(got, c.On(asks(stationB, net+1, ours), ours, 11)...)
	if len(got) != 5 {
		t.Fatalf("On: %v", got)
	}
	want := sends(got)
	for i := range got {
		was := bytes.Clone(got[i].Data)
		overwrite(got[i].Data)
		copy(got[i].Data, was)
		for k := range got {
			if send(got[k].Dst, got[k].Kind, got[k].Data) != want[k] {
				t.Errorf("%d was changed with %d", k, i)
			}
		}
	}
	for i := range got {
		overwrite(got[i].Data)
		for k := i + 1; k < len(got); k++ {
			if send(got[k].Dst, got[k].Kind, got[k].Data) != want[k] {
				t.Errorf("%d shares memory with %d", k, i)
			}
		}
	}
}
