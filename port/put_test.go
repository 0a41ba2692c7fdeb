package port_test

import (
	"math"
	"strconv"
	"testing"

	"slipway/api"
)

// TestPutAndTake: P13.5: what was put first is taken first, each once.
func TestPutAndTake(t *testing.T) {
	p := newPair(t, 1, 4)
	p.opened(68)
	p.puts(68, "a", "b", "c")
	p.takes(68, "a")
	p.puts(68, "d")
	p.takes(68, "b", "c", "d")
	p.takesNone(68, 68)
	p.puts(68, "e")
	p.takes(68, "e")
	p.takesNone(68)
	p.has(is(68, 0, 0))
}

// TestPutNone: P13.5: at a port that is not open: nothing changes, and nothing is counted.
func TestPutNone(t *testing.T) {
	p := newPair(t, 2, 1)
	p.opened(68)
	p.puts(68, "a")
	for _, n := range append([]int{1, 67, 69, 49152, 65535}, never...) {
		p.refuses(n, "x", 131)
		p.takesNone(n)
	}
	p.has(is(68, 1, 0))
	p.opened(69)
	p.takesNone(69)
	p.has(is(68, 1, 0), is(69, 0, 0))
}

// TestPutLooksAtDstPort: P13.5: it is d.DstPort that tells where; neither the other port nor an address does.
func TestPutLooksAtDstPort(t *testing.T) {
	p := newPair(t, 2, 4)
	p.opened(7, 8)
	if err := p.put(api.Datagram{SrcPort: 7, DstPort: 9, SrcIp: 7, DstIp: 7, Data: []byte{7}}); err != 131 {
		t.Errorf("Put: %d", err)
	}
	for _, d := range []api.Datagram{
		{SrcPort: 8, DstPort: 7, SrcIp: 1, DstIp: 2},
		{SrcPort: -8, DstPort: 7, SrcIp: math.MaxUint32},
		{SrcPort: math.MaxInt, DstPort: 7, DstIp: math.MaxUint32, Data: []byte{0}},
		{DstPort: 7},
	} {
		if err := p.put(d); err != 0 {
			t.Errorf("Put(%s): %d", text(d), err)
		}
	}
	p.takesNone(8)
	p.has(is(7, 4, 0), is(8, 0, 0))
	for _, want := range []string{
		"00000001:8 to 00000002:7 ",
		"ffffffff:-8 to 00000000:7 ",
		"00000000:9223372036854775807 to ffffffff:7 00",
		"00000000:0 to 00000000:7 ",
	} {
		if got, some := p.take(7); got != want || !some {
			t.Errorf("Take: %s, %v, want %s", got, some, want)
		}
	}
}

// TestPutFull: P13.5: where depth datagrams wait one more is dropped and counted, and nothing else changes; behind a Take there is room for one.
func TestPutFull(t *testing.T) {
	for _, depth := range []int{1, 2, 3, 31, 32} {
		p := newPair(t, 2, depth)
		p.opened(68, 69)
		name := func(i int) string { return strconv.Itoa(i) }
		for i := range depth {
			p.puts(68, name(i))
		}
		for i := range 5 {
			p.refuses(68, "x", 3)
			p.has(is(68, depth, i+1), is(69, 0, 0))
		}
		p.takes(68, name(0))
		p.has(is(68, depth-1, 5), is(69, 0, 0))
		p.puts(68, name(depth))
		p.refuses(68, "y", 3)
		p.has(is(68, depth, 6), is(69, 0, 0))
		for i := range depth {
			p.takes(68, name(1+i))
		}
		p.takesNone(68)
		p.has(is(68, 0, 6), is(69, 0, 0))
	}
}

// TestDepthIsOfEachPort: P13.5: a port that is full is nothing to another one.
func TestDepthIsOfEachPort(t *testing.T) {
	p := newPair(t, 3, 2)
	p.opened(1, 2, 3)
	p.puts(1, "a", "b")
	p.refuses(1, "c", 3)
	p.puts(2, "d", "e")
	p.puts(3, "f")
	p.has(is(1, 2, 1), is(2, 2, 0), is(3, 1, 0))
	p.takes(3, "f")
	p.refuses(2, "g", 3)
	p.takes(1, "a", "b")
	p.takes(2, "d", "e")
	p.has(is(1, 0, 1), is(2, 0, 1), is(3, 0, 0))
}

// TestDroppedIsCountedOn: P13.5: since the port was opened, over many; the datagrams that waited go on waiting.
func TestDroppedIsCountedOn(t *testing.T) {
	p := newPair(t, 1, 1)
	p.opened(68)
	p.puts(68, "a")
	for range 70000 {
		p.plain.list[0].dropped++
		if err := p.table.Put(to(68, "b")); err != 3 {
			t.Fatalf("Put: %d", err)
		}
	}
	p.has(is(68, 1, 70000))
	p.takes(68, "a")
	p.has(is(68, 0, 70000))
	p.close(68)
	p.opened(68)
	p.has(is(68, 0, 0))
}

// TestTakeNone: P13.5: the zero datagram and false, where nothing waits, where a port isn't open, where none can be.
func TestTakeNone(t *testing.T) {
	p := newPair(t, 2, 2)
	p.takesNone(68)
	p.opened(68, 69)
	p.takesNone(68)
	p.puts(69, "a")
	p.takesNone(68, 70, 1, 49152, 65535)
	p.takesNone(never...)
	p.close(69)
	p.takesNone(69)
	p.opened(69)
	p.takesNone(69)
	p.has(is(68, 0, 0), is(69, 0, 0))
}

// TestAnyBytesWait: P13.5 with R3: none and very many; a datagram without bytes is one as others are.
func TestAnyBytesWait(t *testing.T) {
	r := draws()
	for _, data := range [][]byte{nil, {}, {0}, someBytes(r, 512), someBytes(r, 1472), someBytes(r, 65507), someBytes(r, 100000)} {
		p := newPair(t, 1, 2)
		p.opened(68)
		p.put(api.Datagram{DstPort: 68, Data: data})
		p.put(api.Datagram{DstPort: 68, Data: []byte("behind")})
		p.has(is(68, 2, 0))
		if d, some := p.table.Take(68); !some || string(d.Data) != string(data) || d.DstPort != 68 {
			t.Errorf("Take of %d bytes: %d, %v", len(data), len(d.Data), some)
		}
		if d, some := p.table.Take(68); !some || string(d.Data) != "behind" {
			t.Errorf("Take behind %d bytes: %q, %v", len(data), d.Data, some)
		}
	}
}

// TestSameDatagramTwice: P13.5: what is the same waits twice, if it is put twice.
func TestSameDatagramTwice(t *testing.T) {
	p := newPair(t, 1, 3)
	p.opened(68)
	p.puts(68, "a", "a", "a")
	p.takes(68, "a", "a", "a")
	p.takesNone(68)
}
