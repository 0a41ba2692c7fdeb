package port_test

import (
	"bytes"
	"testing"

	"slipway/api"
	"slipway/port"
)

// overwrite fills bytes and the spare room behind them.
func overwrite(b []byte) {
	b = b[:cap(b)]
	for i := range b {
		b[i] = 0xee
	}
}

// TestLeavesDatagram: R2: neither the bytes that are put nor the room behind them are changed, then or by what comes later.
func TestLeavesDatagram(t *testing.T) {
	for _, n := range []int{0, 1, 28, 100} {
		room := someBytes(draws(), n+200)
		was := bytes.Clone(room)
		p := port.New(2, 2)
		p.Open(7)
		for range 3 { // the third one is dropped
			p.Put(api.Datagram{DstPort: 7, Data: room[:n]})
		}
		p.Put(api.Datagram{DstPort: 8, Data: room[:n]})
		for range 2 {
			d, _ := p.Take(7)
			overwrite(d.Data)
			p.Put(api.Datagram{DstPort: 7, Data: []byte("another")})
		}
		p.Close(7)
		if !bytes.Equal(room, was) {
			t.Errorf("a datagram of %d bytes, or the room behind it, was changed", n)
		}
	}
}

// TestKeepsNoBytes: R2: what waits doesn't hang on what is done behind the call to what was handed in, be it put once or twice.
func TestKeepsNoBytes(t *testing.T) {
	for _, n := range []int{1, 28, 100} {
		p := newPair(t, 2, 3)
		p.opened(7, 8)
		room := someBytes(draws(), n+200)
		want := string(room[:n])
		for range 3 {
			p.put(api.Datagram{SrcPort: 7 + n, DstPort: 7, SrcIp: 0x0a000001, DstIp: 0x0a000005, Data: room[:n]})
		}
		p.put(api.Datagram{SrcPort: 8 + n, DstPort: 8, SrcIp: 0x0a000001, DstIp: 0x0a000005, Data: room[:n]})
		overwrite(room)
		p.takes(7, want, want, want)
		p.takes(8, want)
	}
}

// TestTakenIsNewMemory: R2: whatever is done to what was taken, and to its spare room, what waits is as it was put.
func TestTakenIsNewMemory(t *testing.T) {
	r := draws()
	for range 100 {
		p := port.New(2, 4)
		p.Open(7)
		p.Open(8)
		data := someBytes(r, 1+r.IntN(40))
		for range 4 {
			p.Put(api.Datagram{DstPort: 7, Data: data})
			p.Put(api.Datagram{DstPort: 8, Data: data})
		}
		for range 4 {
			for _, n := range []int{7, 8} {
				d, some := p.Take(n)
				if !some || !bytes.Equal(d.Data, data) {
					t.Fatalf("Take(%d): %x, %v, want %x", n, d.Data, some, data)
				}
				overwrite(d.Data)
			}
		}
	}
}

// TestTakenStays: R2: what was taken is not changed by calls that come later, which use its room in the table again.
func TestTakenStays(t *testing.T) {
	r := draws()
	p := port.New(1, 2)
	p.Open(7)
	var got, want [][]byte
	for range 200 {
		data := someBytes(r, 5)
		p.Put(api.Datagram{DstPort: 7, Data: data})
		want = append(want, bytes.Clone(data))
		d, _ := p.Take(7)
		got = append(got, d.Data)
		overwrite(data)
	}
	p.Close(7)
	for i := range got {
		if !bytes.Equal(got[i], want[i]) {
			t.Errorf("%d: %x, want %x", i, got[i], want[i])
		}
	}
}

// TestPutOfTaken: R2: what was taken may be put again, at another port too, and changed behind that.
func TestPutOfTaken(t *testing.T) {
	p := newPair(t, 2, 2)
	p.opened(7, 8)
	p.puts(7, "abc")
	d, _ := p.table.Take(7)
	p.plain.take(7)
	d.DstPort, d.SrcPort = 8, 11
	p.put(d)
	p.put(d)
	overwrite(d.Data)
	p.takes(8, "abc", "abc")
}

// TestLookIsNewMemory: R2: whatever is done to the list and to its spare room, the table and the next list are as they were.
func TestLookIsNewMemory(t *testing.T) {
	p := newPair(t, 16, 2)
	for n := 1; n <= 16; n++ {
		p.opened(n)
		p.puts(n, "a")
		first, second := p.table.Look(), p.table.Look()
		first = first[:cap(first)]
		for i := range first {
			first[i] = is(-1, -1, -1)
		}
		p.has(second...)
		p.look("a list that was overwritten")
	}
}
