package port_test

import (
	"math"
	"testing"

	"slipway/api"
	"slipway/port"
)

// TestExamples: the chapter's table, call by call; the last row's table has two ports, of which one is closed ahead of Pick.
func TestExamples(t *testing.T) {
	p := newPair(t, 2, 1, 3, 16383, 0)
	for n, want := range map[int]api.Errno{0: 1, 65536: 1} {
		if err := p.open(n); err != want {
			t.Errorf("Open(%d): %d, want %d", n, err, want)
		}
	}
	p.opened(68)
	if err := p.open(68); err != 130 {
		t.Errorf("Open(68): %d", err)
	}
	p.refuses(69, "x", 131)
	p.refuses(68, "a", 0)
	p.refuses(68, "b", 3)
	p.has(is(68, 1, 1))
	p.takes(68, "a")
	p.takesNone(68, 70)
	p.picks(49155)
	if n, err := p.pick(); n != 0 || err != 3 {
		t.Errorf("Pick: %d, %d", n, err)
	}
	if left := p.dice.Left(); left != 2 {
		t.Errorf("%d draws left", left)
	}
	p.has(is(68, 0, 1), is(49155, 0, 0))
	if a, b := p.close(68), p.close(68); !a || b {
		t.Errorf("Close(68): %v, %v", a, b)
	}
	p.picks(65535)
	p.has(is(49155, 0, 0), is(65535, 0, 0))
	a, b := p.close(49155), p.open(49152)
	c, d := p.close(65535), p.open(65535)
	if e := p.close(49152); !a || b != 0 || !c || d != 0 || !e {
		t.Errorf("the last row: %v, %d, %v, %d, %v", a, b, c, d, e)
	}
	p.dice.Next()
	p.dice.Add(16383)
	p.plain.draws = []uint32{16383}
	p.picks(49152)
	p.has(is(49152, 0, 0), is(65535, 0, 0))
}

// TestExamplesOfNew: the chapter's first row.
func TestExamplesOfNew(t *testing.T) {
	if port.New(0, 1) != nil || port.New(17, 1) != nil || port.New(1, 33) != nil || port.New(16, 32) == nil {
		t.Error("New")
	}
}

// TestNew: P13.1: both numbers, each alone and both at once; a new table has no open port.
func TestNew(t *testing.T) {
	within := func(n, most int) bool { return n >= 1 && n <= most }
	numbers := []int{math.MinInt, math.MinInt32, -16, -1, 0, 1, 2, 15, 16, 17, 18, 31, 32, 33, 34, 64, 256, 1 << 32, 1<<32 + 1, 1<<32 + 16, math.MaxInt}
	for _, most := range numbers {
		for _, depth := range numbers {
			table := port.New(most, depth)
			if want := within(most, 16) && within(depth, 32); (table != nil) != want {
				t.Errorf("New(%d, %d): a table: %v, want %v", most, depth, table != nil, want)
			}
			if table != nil && len(table.Look()) != 0 {
				t.Errorf("New(%d, %d): Look: %v", most, depth, table.Look())
			}
		}
	}
}

// TestNewHasNothing: P13.1: of a new table no port is open, for any of its calls.
func TestNewHasNothing(t *testing.T) {
	p := newPair(t, 16, 32)
	for _, n := range []int{-1, 0, 1, 67, 68, 69, 49152, 65535, 65536} {
		if p.close(n) {
			t.Errorf("Close(%d) of a new one", n)
		}
		p.takesNone(n)
		p.refuses(n, "x", 131)
	}
	p.has()
}

// TestMostAndDepth: P13.1, P13.2, P13.5: as many ports as were said, as many datagrams at each of them, and not one more, of all numbers that there may be.
func TestMostAndDepth(t *testing.T) {
	for most := 1; most <= 16; most++ {
		for depth := 1; depth <= 32; depth++ {
			table := port.New(most, depth)
			for i := range most {
				if err := table.Open(60 + i); err != 0 {
					t.Errorf("New(%d, %d): Open, once more than %d: %d", most, depth, i, err)
				}
			}
			if err := table.Open(50); err != 3 {
				t.Errorf("New(%d, %d): one port more: %d", most, depth, err)
			}
			for i := range most {
				for k := range depth {
					if err := table.Put(to(60+i, "x")); err != 0 {
						t.Errorf("New(%d, %d): Put, once more than %d: %d", most, depth, k, err)
					}
				}
				if err := table.Put(to(60+i, "y")); err != 3 {
					t.Errorf("New(%d, %d): one datagram more: %d", most, depth, err)
				}
			}
			list := table.Look()
			for i, s := range list {
				if s != is(60+i, depth, 1) {
					t.Errorf("New(%d, %d): Look: %v", most, depth, list)
				}
			}
			if len(list) != most {
				t.Errorf("New(%d, %d): %d ports", most, depth, len(list))
			}
		}
	}
}

// TestLook: P13.6: by rising numbers, in whatever order they were opened; nothing of a table without open ports.
func TestLook(t *testing.T) {
	r := draws()
	numbers := []int{1, 2, 67, 68, 69, 255, 256, 9999, 10000, 32767, 32768, 49152, 49153, 65533, 65534, 65535}
	for range 200 {
		p := newPair(t, 16, 3)
		var want []api.PortState
		for i, n := range numbers {
			want = append(want, is(n, min(i%5, 3), max(i%5-3, 0)))
		}
		for _, i := range r.Perm(16) {
			p.opened(numbers[i])
			for range i % 5 {
				p.put(to(numbers[i], "x"))
			}
		}
		p.has(want...)
		p.has(want...)
		for _, i := range r.Perm(16) {
			p.close(numbers[i])
		}
		if got := p.table.Look(); len(got) != 0 {
			t.Errorf("Look without open ports: %v", got)
		}
	}
}

// TestLookChangesNothing: P13.6: however often it is called.
func TestLookChangesNothing(t *testing.T) {
	p := newPair(t, 2, 2)
	p.opened(9, 8)
	p.puts(9, "a", "b")
	p.refuses(9, "c", 3)
	for range 50 {
		p.has(is(8, 0, 0), is(9, 2, 1))
	}
	p.takes(9, "a", "b")
	p.takesNone(9)
	p.has(is(8, 0, 0), is(9, 0, 1))
}
