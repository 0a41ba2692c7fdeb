package nic_test

import (
	"bytes"
	"testing"

	"slipway/api"
)

// overwrite fills bytes and the spare room behind them.
func overwrite(b []byte) {
	b = b[:cap(b)]
	for i := range b {
		b[i] = 0xee
	}
}

// TestLeavesData: P5.6 with R2: neither data nor the room behind it is changed, refused or not, then or by what comes later.
func TestLeavesData(t *testing.T) {
	for _, n := range []int{0, 1, 45, 46, 47, 1499, 1500, 1501} {
		for _, kind := range []int{2048, 1} {
			p := newPair(t, 1, 2, stationA)
			room := someBytes(draws(), n+2000)
			was := bytes.Clone(room)
			for range 3 {
				b, _ := p.send(api.Send{Dst: stationB, Kind: kind, Data: room[:n]})
				overwrite(b)
			}
			for range 2 {
				overwrite(p.depart())
				p.send(api.Send{Dst: stationB, Kind: 2048, Data: filled(1500, 0xdd)})
			}
			if !bytes.Equal(room, was) {
				t.Errorf("Send of %d bytes, kind %d, changed them, or the room behind them", n, kind)
			}
		}
	}
}

// TestKeepsNoData: P5.6 with R2: what departs doesn't hang on what is done to the data behind the call.
func TestKeepsNoData(t *testing.T) {
	for _, n := range []int{0, 1, 45, 46, 47, 1499, 1500} {
		p := newPair(t, 1, 1, stationA)
		room := someBytes(draws(), n+100)
		p.send(api.Send{Dst: stationB, Kind: 2048, Data: room[:n]})
		overwrite(room)
		p.look("data that was changed behind the call")
		p.depart()
	}
}

// TestLengthIsNotCapacity: P5.3: what lies behind the data is not sent: zeros are laid there.
func TestLengthIsNotCapacity(t *testing.T) {
	p := newPair(t, 1, 1, stationA)
	room := someBytes(draws(), 3000)
	for _, n := range []int{0, 1, 45, 46, 1500, 1501} {
		p.send(api.Send{Dst: stationB, Kind: 2048, Data: room[:n]})
		p.look("data with room behind it")
		p.depart()
	}
}

// TestSentIsNewMemory: P5.6 with R2: what Send answers shares nothing with the card, nor with what departs, nor with another answer.
func TestSentIsNewMemory(t *testing.T) {
	for _, n := range []int{0, 1, 46, 47, 1000, 1500} {
		p := newPair(t, 1, 3, stationA)
		data := someBytes(draws(), n)
		var lists [][]byte
		for range 3 {
			b, _ := p.send(api.Send{Dst: stationB, Kind: 2048, Data: data})
			lists = append(lists, b)
		}
		for range 2 {
			b, _ := p.card.Depart()
			lists = append(lists, b)
		}
		p.leaving, p.counts.Out = p.leaving[2:], 2
		checkApart(t, append(lists, data))
		p.look("answers that were overwritten")
		p.depart()
		p.send(api.Send{Dst: stationB, Kind: 2054, Data: filled(1500, 1)})
		checkUntouched(t, lists)
	}
}

// TestTakenIsNewMemory: P5.6 with R2: the frames of a Poll share nothing with the card, nor with one another, nor with those of another Poll, and the spare room of the list is its own too.
func TestTakenIsNewMemory(t *testing.T) {
	p := newPair(t, 5, 1, stationA)
	var lists [][]byte
	var polls [][]api.Frame
	for round := range 3 {
		for i := range 5 {
			b := raw(stationA, stationB, 2048, 60+100*i, byte(1+10*round+i))
			p.arrive(b)
			lists = append(lists, b)
		}
		l := p.poll(3)
		polls = append(polls, l, p.poll(9))
	}
	for _, l := range polls {
		for _, f := range l {
			lists = append(lists, f.Data)
		}
	}
	if len(lists) != 30 {
		t.Fatalf("%d frames, want 15", len(lists)-15)
	}
	checkListsApart(t, polls)
	for range 5 {
		p.arrive(raw(stationA, stationB, 2048, 700, 77))
	}
	checkApart(t, lists)
	p.look("answers that were overwritten")
	p.poll(9)
	checkUntouched(t, lists)
}

// checkListsApart overwrites one list of frames after the other, spare room too: none of the others may change by that.
func checkListsApart(t *testing.T, polls [][]api.Frame) {
	t.Helper()
	for i, l := range polls {
		l = l[:cap(l)]
		for k := range l {
			l[k].Kind = -1 - i
		}
	}
	for i, l := range polls {
		for _, f := range l[:cap(l)] {
			if f.Kind != -1-i {
				t.Errorf("the list of Poll %d shares memory with another: %d", i, f.Kind)
			}
		}
	}
}

// TestTakenStays: P5.6 with R2: what a Poll answered stays as it is, whatever comes later.
func TestTakenStays(t *testing.T) {
	p := newPair(t, 1, 1, stationA)
	p.arrive(raw(stationA, stationB, 2048, 60, 1))
	first := p.poll(1)
	sent, _ := p.send(api.Send{Dst: stationB, Kind: 2048, Data: filled(46, 2)})
	p.depart()
	for range 3 {
		p.arrive(raw(everyone, stationB, 2054, 1514, 9))
		p.poll(1)
		p.send(api.Send{Dst: everyone, Kind: 2054, Data: filled(1500, 9)})
		p.depart()
	}
	checkFrames(t, "the first Poll", first, []api.Frame{{Dst: stationA, Src: stationB, Kind: 2048, Data: filled(46, 1)}})
	if !bytes.Equal(sent, raw(stationB, stationA, 2048, 60, 2)) {
		t.Errorf("the first Send: % x", sent)
	}
}

// checkApart overwrites one after the other: none of those behind it may change by that.
func checkApart(t *testing.T, lists [][]byte) {
	t.Helper()
	for i, b := range lists {
		rest := make([][]byte, 0, len(lists))
		for _, l := range lists[i+1:] {
			rest = append(rest, bytes.Clone(l[:cap(l)]))
		}
		overwrite(b)
		for k, l := range lists[i+1:] {
			if !bytes.Equal(l[:cap(l)], rest[k]) {
				t.Errorf("lists %d and %d share memory", i, i+1+k)
			}
		}
	}
}

// checkUntouched: what was overwritten stays so, whatever the driver did then.
func checkUntouched(t *testing.T, lists [][]byte) {
	t.Helper()
	for i, l := range lists {
		if whole := l[:cap(l)]; !bytes.Equal(whole, filled(len(whole), 0xee)) {
			t.Errorf("list %d was changed later", i)
		}
	}
}
