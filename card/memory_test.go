package card_test

import (
	"bytes"
	"testing"

	"slipway/card"
)

// overwrite fills bytes and the spare room behind them.
func overwrite(b []byte) {
	b = b[:cap(b)]
	for i := range b {
		b[i] = 0xee
	}
}

// lengths lie about those that Arrive and Lay take.
func lengths() []int { return []int{0, 1, 59, 60, 61, 1513, 1514, 1515} }

// TestLeavesBytes: P4.2, P4.5 with R2: neither bytes nor the room behind them are changed, refused or not, then or by what comes later.
func TestLeavesBytes(t *testing.T) {
	for _, n := range lengths() {
		c := card.New(2, 2)
		room := someBytes(draws(), n+2000)
		was := bytes.Clone(room)
		for i := -1; i < 3; i++ {
			c.Arrive(room[:n])
			c.Lay(i, room[:n])
		}
		for i := range 2 {
			c.Give(i)
			c.Depart()
			c.Arrive(filled(1514, 0xdd))
			c.Lay(i, filled(1514, 0xcc))
		}
		if !bytes.Equal(room, was) {
			t.Errorf("Arrive or Lay of %d bytes changed them, or the room behind them", n)
		}
	}
}

// TestKeepsNoBytes: P4.2, P4.5 with R2: what a descriptor holds doesn't hang on what was handed in.
func TestKeepsNoBytes(t *testing.T) {
	for _, n := range lengths() {
		p := newPair(t, 1, 1)
		room := someBytes(draws(), n+100)
		p.arrive(room[:n])
		p.lay(0, room[:n])
		overwrite(room)
		p.look("bytes that were changed behind the call")
		p.depart()
	}
}

// TestShownIsNewMemory: P4.4 with R2: what Rx and Tx show shares nothing with the descriptor, nor with what they show once more, nor does its spare room.
func TestShownIsNewMemory(t *testing.T) {
	for _, n := range []int{60, 61, 1000, 1514} {
		p := newPair(t, 2, 2)
		r := draws()
		for i := range 2 {
			p.arrive(someBytes(r, n))
			p.lay(i, someBytes(r, n))
		}
		var shown [][]byte
		for range 2 {
			for i := range 2 {
				in, _ := p.card.Rx(i)
				out, _ := p.card.Tx(i)
				shown = append(shown, in.Data, out.Data)
			}
		}
		checkApart(t, shown)
		p.look("answers that were overwritten")
		p.depart()
		p.depart()
		checkUntouched(t, shown)
	}
}

// TestEmptyIsNewMemory: P4.4 with R2: of a descriptor that is empty no room is handed out in which a frame lies later.
func TestEmptyIsNewMemory(t *testing.T) {
	p := newPair(t, 1, 1)
	p.arrive(filled(100, 1))
	p.give(0)
	p.lay(0, filled(100, 1))
	p.depart()
	in, _ := p.card.Rx(0)
	out, _ := p.card.Tx(0)
	none, _ := p.card.Depart()
	checkApart(t, [][]byte{in.Data, out.Data, none})
	p.arrive(filled(60, 2))
	p.lay(0, filled(60, 3))
	overwrite(in.Data)
	overwrite(out.Data)
	overwrite(none)
	p.look("answers that were overwritten")
}

// TestDepartedIsNewMemory: P4.3 with R2: what departs is the wire's: the card has none of it any more.
func TestDepartedIsNewMemory(t *testing.T) {
	for _, n := range []int{60, 61, 1000, 1514} {
		p := newPair(t, 1, 1)
		r := draws()
		var left [][]byte
		for range 3 {
			p.lay(0, someBytes(r, n))
			d, _ := p.card.Tx(0)
			b, _ := p.card.Depart()
			p.plain.depart()
			left = append(left, d.Data, b)
		}
		checkApart(t, left)
		p.lay(0, someBytes(r, 1514))
		checkUntouched(t, left)
		p.look("frames that were overwritten")
	}
}

// checkApart overwrites one after the other: none of those behind it may change by that.
func checkApart(t *testing.T, lists [][]byte) {
	t.Helper()
	for i, b := range lists {
		rest := make([][]byte, 0, len(lists))
		for _, l := range lists[i+1:] {
			rest = append(rest, bytes.Clone(l[:cap(l)]))
		}
		overwrite(b)
		for k, l := range lists[i+1:] {
			if !bytes.Equal(l[:cap(l)], rest[k]) {
				t.Errorf("answers %d and %d share memory", i, i+1+k)
			}
		}
	}
}

// checkUntouched: what was overwritten stays so, whatever the card did then.
func checkUntouched(t *testing.T, lists [][]byte) {
	t.Helper()
	for i, l := range lists {
		if whole := l[:cap(l)]; !bytes.Equal(whole, filled(len(whole), 0xee)) {
			t.Errorf("answer %d was changed later", i)
		}
	}
}

// TestKeepsNoAnswers: P4.3, P4.4 with R2: an answer stays as it is, whatever the card is told later.
func TestKeepsNoAnswers(t *testing.T) {
	c := card.New(1, 1)
	c.Arrive(filled(60, 1))
	c.Lay(0, filled(61, 2))
	in, _ := c.Rx(0)
	out, _ := c.Tx(0)
	left, _ := c.Depart()
	c.Give(0)
	c.Arrive(filled(1514, 3))
	c.Lay(0, filled(1514, 4))
	for i, want := range [][]byte{filled(60, 1), filled(61, 2), filled(61, 2)} {
		if got := [][]byte{in.Data, out.Data, left}[i]; !bytes.Equal(got, want) {
			t.Errorf("answer %d: % x, want % x", i, got, want)
		}
	}
}
