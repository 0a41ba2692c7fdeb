package port_test

import (
	"math"
	"math/rand/v2"
	"strconv"
	"testing"

	"slipway/api"
	"slipway/dice"
	"slipway/port"
)

// somePort is mostly one of a few, so that calls meet; some are where Pick goes round.
func somePort(r *rand.Rand) int {
	switch r.IntN(20) {
	case 0:
		return never[r.IntN(len(never))]
	case 1, 2, 3, 4:
		return 49152 + r.IntN(4)
	case 5, 6, 7, 8:
		return 65535 - r.IntN(4)
	}
	return 1 + r.IntN(8)
}

func someDraw(r *rand.Rand) uint32 {
	if r.IntN(4) == 0 {
		return r.Uint32()
	}
	return uint32(16384*(1+r.IntN(3)) + r.IntN(8) - 4)
}

func someDatagram(r *rand.Rand) api.Datagram {
	return api.Datagram{SrcIp: r.Uint32(), DstIp: r.Uint32(), SrcPort: somePort(r), DstPort: somePort(r), Data: someBytes(r, r.IntN(4))}
}

// step does any call, on both.
func (p *pair) step(r *rand.Rand) {
	p.t.Helper()
	switch n := r.IntN(100); {
	case n < 12:
		p.open(somePort(r))
	case n < 20:
		p.pick()
	case n < 30:
		p.close(somePort(r))
	case n < 70:
		p.put(someDatagram(r))
	case n < 98:
		p.take(somePort(r))
	default:
		draw := someDraw(r)
		p.dice.Add(draw)
		p.plain.draws = append(p.plain.draws, draw)
	}
}

// TestAnyCalls: P13.1 to P13.7: all calls in any order, in small tables and in great ones.
func TestAnyCalls(t *testing.T) {
	r := draws()
	for _, most := range []int{1, 2, 3, 8, 16} {
		for _, depth := range []int{1, 2, 5, 32} {
			for range 10 {
				p := newPair(t, most, depth, someDraw(r), someDraw(r), someDraw(r))
				for range 400 {
					p.step(r)
				}
				p.empty()
			}
		}
	}
}

// TestAnyPortsFull: P13.5, P13.7: many datagrams at few ports, so that all depths are reached, over and over.
func TestAnyPortsFull(t *testing.T) {
	r := draws()
	for _, depth := range []int{1, 3, 31, 32} {
		p := newPair(t, 4, depth)
		p.opened(1, 2, 3, 4)
		for i := range 6000 {
			n := 1 + r.IntN(4)
			if r.IntN(1000) < 500+400*(i/1000%2) {
				p.put(to(n, strconv.Itoa(i)))
			} else {
				p.take(n)
			}
			if r.IntN(300) == 0 {
				p.close(n)
				p.open(n)
			}
		}
		p.empty()
	}
}

// ledger is what was put at each port and not refused, and not taken yet, by names that come but once.
type ledger struct {
	t     *testing.T
	table *port.Ports
	waits map[int][]string
	taken map[string]int
}

func (l *ledger) put(n int, name string) {
	if l.table.Put(api.Datagram{DstPort: n, Data: []byte(name)}) == api.OK {
		l.waits[n] = append(l.waits[n], name)
	}
}

func (l *ledger) take(n int) {
	l.t.Helper()
	d, some := l.table.Take(n)
	if some != (len(l.waits[n]) > 0) {
		l.t.Fatalf("Take(%d): %v, but %d wait", n, some, len(l.waits[n]))
	}
	if !some {
		return
	}
	name := string(d.Data)
	l.taken[name]++
	if name != l.waits[n][0] || d.DstPort != n || l.taken[name] != 1 {
		l.t.Fatalf("Take(%d): %q of %d, want %q, once", n, name, d.DstPort, l.waits[n][0])
	}
	l.waits[n] = l.waits[n][1:]
}

// TestTakenOnceInOrder: P13.7: what was put and not refused is taken there, once, in order, whatever is done at other ports.
func TestTakenOnceInOrder(t *testing.T) {
	r := draws()
	for round := range 40 {
		d := dice.New(nil)
		l := &ledger{t, port.New(8, 1+round%32), map[int][]string{}, map[string]int{}}
		kept := []int{1, 49152, 65535} // which are never closed
		for _, n := range kept {
			l.table.Open(n)
		}
		for i := range 1500 {
			n := kept[r.IntN(3)]
			switch other := 49153 + r.IntN(8); r.IntN(8) {
			case 0, 1:
				l.put(n, strconv.Itoa(i))
			case 2:
				l.take(n)
			case 3:
				l.table.Open(other)
				l.table.Open(n)
			case 4:
				l.table.Close(other)
				l.waits[other] = nil
			case 5:
				l.table.Pick(d)
			case 6:
				l.put(other, strconv.Itoa(i))
			default:
				l.take(other)
			}
		}
		for _, n := range kept {
			for range len(l.waits[n]) + 1 {
				l.take(n)
			}
		}
	}
}

// TestTakenOfAll: P13.7: all ports there may be, each with as many datagrams as there may be, taken in any order of the ports.
func TestTakenOfAll(t *testing.T) {
	r := draws()
	p := newPair(t, 16, 32)
	var order []int
	for i := range 16 {
		p.opened(1 + 4096*i)
	}
	for k := range 32 {
		for _, i := range r.Perm(16) {
			p.puts(1+4096*i, strconv.Itoa(i*100+k))
			order = append(order, i)
		}
	}
	r.Shuffle(len(order), func(a, b int) { order[a], order[b] = order[b], order[a] })
	next := [16]int{}
	for _, i := range order {
		p.takes(1+4096*i, strconv.Itoa(i*100+next[i]))
		next[i]++
	}
	for i := range 16 {
		p.takesNone(1 + 4096*i)
	}
}

// TestAnyArguments: R1: none panics, at arguments of all kinds.
func TestAnyArguments(t *testing.T) {
	r := draws()
	p := newPair(t, 16, 2)
	numbers := append([]int{1, 65535, 49152, 70, -70}, never...)
	for range 3000 {
		n := numbers[r.IntN(len(numbers))]
		if r.IntN(3) == 0 {
			n = int(r.Uint64() >> r.IntN(64))
		}
		p.open(n)
		p.put(api.Datagram{SrcPort: math.MinInt, DstPort: n})
		p.pick()
		p.take(-n)
		p.take(n)
		p.close(n + r.IntN(2))
		if r.IntN(30) == 0 {
			for _, s := range p.table.Look() {
				p.close(s.Port)
			}
		}
	}
}

// TestTwoTables: R6: what is done to one is not seen in another, though ports and draws are the same.
func TestTwoTables(t *testing.T) {
	r := draws()
	a, b := newPair(t, 4, 3, 1, 2, 3), newPair(t, 5, 2, 1, 2, 3)
	for i := range 4000 {
		if i%2 == 0 {
			a.step(r)
		} else {
			b.step(r)
		}
		a.look("a call on another table")
		b.look("a call on another table")
	}
	a.empty()
	b.empty()
}

// TestTwoTablesOfOnePort: R6: one port that is open in both has in each what was put there.
func TestTwoTablesOfOnePort(t *testing.T) {
	a, b := newPair(t, 1, 2), newPair(t, 1, 2)
	a.opened(68)
	b.takesNone(68)
	b.refuses(68, "x", 131)
	b.opened(68)
	a.puts(68, "a", "b")
	a.refuses(68, "c", 3)
	b.has(is(68, 0, 0))
	b.puts(68, "d")
	a.has(is(68, 2, 1))
	a.close(68)
	b.takes(68, "d")
	a.opened(68)
	a.takesNone(68)
}

// TestSameCallsSameAnswers: R6: the order of a map is not seen: the same calls have the same answers, each time.
func TestSameCallsSameAnswers(t *testing.T) {
	for range 20 {
		r := draws()
		p := newPair(t, 8, 4, 0, 16383)
		for range 300 {
			p.step(r)
		}
	}
}
