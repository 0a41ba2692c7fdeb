package port_test

import (
	"math"
	"testing"

	"slipway/api"
)

// never are numbers that no port has.
var never = []int{math.MinInt, math.MinInt32, -65536, -65535, -68, -1, 0, 65536, 65537, 65536 + 68, 1 << 31, 1<<32 + 68, math.MaxInt - 1, math.MaxInt}

// TestOpen: P13.2: from 1 to 65535, and nothing waits there.
func TestOpen(t *testing.T) {
	for _, n := range []int{1, 2, 67, 68, 69, 255, 256, 1023, 1024, 32767, 32768, 49151, 49152, 65534, 65535} {
		p := newPair(t, 1, 1)
		p.opened(n)
		p.has(is(n, 0, 0))
		p.takesNone(n)
	}
	for _, n := range never {
		p := newPair(t, 1, 1)
		if err := p.open(n); err != 1 {
			t.Errorf("Open(%d): %d", n, err)
		}
		p.has()
		p.opened(68)
	}
}

// TestOpenEveryPort: P13.2, P13.4: each number there is, one behind the other.
func TestOpenEveryPort(t *testing.T) {
	p := newPair(t, 1, 1)
	for n := -3; n <= 65540; n++ {
		want := api.OK
		if n < 1 || n > 65535 {
			want = api.ErrArg
		}
		if err := p.open(n); err != want {
			t.Errorf("Open(%d): %d, want %d", n, err, want)
		}
		if was := p.close(n); was != (want == api.OK) {
			t.Errorf("Close(%d): %v", n, was)
		}
	}
}

// TestOpenTaken: P13.2: an open port is not opened again: what waits there and what was dropped stay.
func TestOpenTaken(t *testing.T) {
	p := newPair(t, 3, 2, 7)
	p.opened(68, 9)
	p.puts(68, "a", "b")
	p.refuses(68, "c", 3)
	p.picks(49159)
	for _, n := range []int{68, 9, 49159} {
		if err := p.open(n); err != 130 {
			t.Errorf("Open(%d): %d", n, err)
		}
	}
	p.has(is(9, 0, 0), is(68, 2, 1), is(49159, 0, 0))
	p.takes(68, "a", "b")
	p.takesNone(68)
}

// TestOpenFull: P13.2: not one more than most, with as many ports of any kind; behind a Close there is room for one, be it the same or another.
func TestOpenFull(t *testing.T) {
	for _, most := range []int{1, 2, 3, 15, 16} {
		p := newPair(t, most, 1)
		for i := range most {
			p.opened(100 - i)
		}
		for _, n := range []int{1, 68, 101, 49152, 65535} {
			if err := p.open(n); err != 3 {
				t.Errorf("Open(%d) with %d open: %d", n, most, err)
			}
		}
		p.close(100)
		p.opened(101)
		if err := p.open(100); err != 3 {
			t.Errorf("Open(100) with %d open: %d", most, err)
		}
		p.close(101)
		p.opened(100)
	}
}

// TestOpenErrorsOrder: P13.2 with R5: ErrArg ahead of ErrFull, ErrTaken ahead of ErrFull; nothing changes by any of them.
func TestOpenErrorsOrder(t *testing.T) {
	p := newPair(t, 2, 1)
	p.opened(1, 65535)
	p.puts(1, "a")
	for _, n := range never {
		if err := p.open(n); err != 1 {
			t.Errorf("Open(%d) with all open: %d", n, err)
		}
	}
	for n, want := range map[int]api.Errno{1: 130, 65535: 130, 2: 3, 65534: 3} {
		if err := p.open(n); err != want {
			t.Errorf("Open(%d) with all open: %d, want %d", n, err, want)
		}
	}
	p.has(is(1, 1, 0), is(65535, 0, 0))
	p.takes(1, "a")
}

// TestOpenIsNoneOfTheOthers: P13.2: to open a port changes nothing at another one.
func TestOpenIsNoneOfTheOthers(t *testing.T) {
	p := newPair(t, 4, 2, 0)
	p.opened(5)
	p.puts(5, "a", "b")
	p.refuses(5, "c", 3)
	p.opened(4, 6)
	p.picks(49152)
	p.has(is(4, 0, 0), is(5, 2, 1), is(6, 0, 0), is(49152, 0, 0))
	p.takes(5, "a", "b")
}

// TestClose: P13.4: whether it was open; it is not then.
func TestClose(t *testing.T) {
	p := newPair(t, 3, 2, 0)
	p.opened(1, 65535)
	p.picks(49152)
	for _, n := range []int{1, 49152, 65535} {
		if !p.close(n) {
			t.Errorf("Close(%d): not open", n)
		}
		if p.close(n) {
			t.Errorf("Close(%d): open still", n)
		}
		p.takesNone(n)
		p.refuses(n, "x", 131)
	}
	p.has()
}

// TestCloseOfNone: P13.4: a port that is not open, or never can be: nothing changes.
func TestCloseOfNone(t *testing.T) {
	p := newPair(t, 2, 2)
	p.opened(68)
	p.puts(68, "a")
	for _, n := range append([]int{1, 67, 69, 49152, 65535}, never...) {
		if p.close(n) {
			t.Errorf("Close(%d)", n)
		}
	}
	p.has(is(68, 1, 0))
	p.takes(68, "a")
}

// TestCloseForgets: P13.4, P13.2: what waited is gone, and what was dropped is counted anew, at that port alone.
func TestCloseForgets(t *testing.T) {
	for _, again := range []func(p *pair){
		func(p *pair) { p.opened(49160) },
		func(p *pair) { p.picks(49160) },
	} {
		p := newPair(t, 2, 2, 8)
		p.opened(49160, 7)
		for _, n := range []int{49160, 7} {
			p.puts(n, "a", "b")
			p.refuses(n, "c", 3)
			p.refuses(n, "d", 3)
		}
		p.close(49160)
		p.has(is(7, 2, 2))
		again(p)
		p.has(is(7, 2, 2), is(49160, 0, 0))
		p.takesNone(49160)
		p.puts(49160, "e", "f")
		p.refuses(49160, "g", 3)
		p.has(is(7, 2, 2), is(49160, 2, 1))
		p.takes(49160, "e", "f")
		p.takes(7, "a", "b")
	}
}
