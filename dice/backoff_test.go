package dice_test

import (
	"math"
	"math/big"
	"testing"

	"slipway/api"
	"slipway/dice"
)

// TestExampleOfBackoff: the chapter's table, its rows four to six, and numbers about the edges, reckoned by hand.
func TestExampleOfBackoff(t *testing.T) {
	const top, most = math.MaxUint32, api.MaxTime
	for _, x := range []struct {
		draw            uint32
		base, most, try int
		want            int
	}{
		{0, 40, 640, 1, 30},
		{20, 40, 640, 1, 50},
		{21, 40, 640, 1, 30},
		{top, 40, 640, 1, 33},
		{0, 40, 640, 5, 480},
		{0, 40, 640, 99, 480},
		{3, 1, 1, 1, 1},
		{1, 0, 100, 0, 1},
		{1, 4, 0, 9, 1},
		{0, 40, 640, 2, 60},
		{40, 40, 640, 2, 100},
		{41, 40, 640, 2, 60},
		{0, 40, 640, 4, 240},
		{320, 40, 640, 5, 800},
		{321, 40, 640, 6, 480},
		{0, 800, 640, 1, 480},
		{0, 7, 100, 1, 6},   // b / 4 is 1
		{3, 7, 100, 1, 9},   // b / 2 + 1 is 4
		{4, 7, 100, 1, 6},   //
		{1, 2, 100, 1, 3},   // b / 2 + 1 is 2
		{1, 3, 100, 1, 4},   //
		{2, 3, 100, 1, 3},   //
		{0, 3, 100, 6, 72},  // 96 is below most
		{0, 3, 100, 7, 75},  // 192 is not
		{0, 25, 100, 3, 75}, // 100 is at most
		{0, most, most, 1, most - most/4},
		{0, most, most, math.MaxInt, most - most/4},
		{top, most, most, 1, most - most/4 + top},
		{top, 1, most, 51, most - most/4 + top},
		{top, 1, most, 50, most/2 - most/8 + top},
		{top, 1, most, 33, 1<<32 - 1<<30 + (top - 1<<31 - 1)},
		{top, 1, most, 34, 1<<33 - 1<<31 + top},
		{0, most + 1, most + 1, 1, most - most/4},
		{0, math.MaxInt, math.MaxInt, 1, most - most/4},
		{0, math.MaxInt, math.MaxInt, math.MaxInt, most - most/4},
		{0, 1, math.MaxInt, math.MaxInt, most - most/4},
		{9, math.MinInt, math.MinInt, math.MinInt, 1},
		{0, 40, 640, math.MinInt, 30},
		{0, 40, 640, -1, 30},
	} {
		d := dice.New([]uint32{x.draw, 77})
		if got := d.Backoff(x.base, x.most, x.try); got != x.want || d.Left() != 1 || d.Next() != 77 {
			t.Errorf("Backoff(%d, %d, %d) of %d: %d, want %d", x.base, x.most, x.try, x.draw, got, x.want)
		}
	}
}

// TestBackoffCountsAs: P6.4: below 1 is as 1, and above MaxTime as MaxTime, but for try.
func TestBackoffCountsAs(t *testing.T) {
	few := []int{math.MinInt, math.MinInt + 1, math.MinInt32, -40, -1, 0, 1}
	much := []int{api.MaxTime, api.MaxTime + 1, 2 * api.MaxTime, math.MaxInt - 1, math.MaxInt}
	for _, draw := range edgeDraws {
		one := func(base, most, try int) int { return dice.New([]uint32{draw}).Backoff(base, most, try) }
		for _, n := range few {
			if one(n, 640, 4) != one(1, 640, 4) || one(40, n, 4) != one(40, 1, 4) || one(40, 640, n) != one(40, 640, 1) {
				t.Errorf("%d is not as 1, at the draw %d", n, draw)
			}
		}
		for _, n := range much {
			if one(n, api.MaxTime, 1) != one(api.MaxTime, api.MaxTime, 1) || one(n, 640, 3) != one(640, 640, 1) || one(3, n, 60) != one(api.MaxTime, api.MaxTime, 1) {
				t.Errorf("%d is not as MaxTime, at the draw %d", n, draw)
			}
		}
	}
}

// tries are about those at which a doubled number leaves 32 bits, MaxTime, an int.
func tries() []int {
	l := []int{math.MinInt, math.MinInt + 1, -1, 0, 99, 127, 128, 129, 1 << 31, 1 << 32, 1<<32 + 1, 1<<32 + 2, api.MaxTime, math.MaxInt - 1, math.MaxInt}
	for try := 1; try <= 70; try++ {
		l = append(l, try)
	}
	return l
}

// TestBackoffEdges: P6.4: exact numbers, whatever the three are.
func TestBackoffEdges(t *testing.T) {
	for _, base := range edgeInts {
		for _, most := range edgeInts {
			for _, try := range tries() {
				p := newPair(t, 0, 21, math.MaxUint32)
				for range 4 {
					checkBounds(t, base, most, try, p.backoff(base, most, try))
				}
			}
		}
	}
}

// checkBounds: P6.5: b less a quarter of it, to b and a quarter of it and 1, as exact numbers; at least 1.
func checkBounds(t *testing.T, base, most, try, got int) {
	t.Helper()
	b := plainWait(base, most, try)
	four := new(big.Int).Mul(number(got), number(4))
	least := new(big.Int).Mul(b, number(3))
	greatest := new(big.Int).Mul(b, number(5))
	greatest.Add(greatest, number(4))
	if got < 1 || four.Cmp(least) < 0 || four.Cmp(greatest) > 0 {
		t.Errorf("Backoff(%d, %d, %d): %d, which is out of the bounds of %d", base, most, try, got, b)
	}
}

// TestBackoffWithin: P6.5: all small b, by draws more than once round; both ends come.
func TestBackoffWithin(t *testing.T) {
	for b := 1; b <= 200; b++ {
		least, greatest := math.MaxInt, 0
		for draw := range 2*b + 3 {
			got := newPair(t, uint32(draw)).backoff(b, 1000, 1)
			checkBounds(t, b, 1000, 1, got)
			least, greatest = min(least, got), max(greatest, got)
		}
		if least != b-b/4 || greatest != b-b/4+b/2 {
			t.Errorf("Backoff(%d, 1000, 1): from %d to %d", b, least, greatest)
		}
	}
}

// TestBackoffOfAny: P6.4, P6.5: any numbers of any size.
func TestBackoffOfAny(t *testing.T) {
	r := chance()
	for range 20000 {
		base, most, try := int(r.Uint64()>>r.IntN(64)), int(r.Uint64()>>r.IntN(64)), r.IntN(60)
		checkBounds(t, base, most, try, newPair(t, someDraws(r, 1)...).backoff(base, most, try))
	}
}

// TestBackoffAlwaysUsesOne: P6.4, P6.5: one draw, also where all draws tell the same, and where none is left.
func TestBackoffAlwaysUsesOne(t *testing.T) {
	d := dice.New([]uint32{7, 8})
	if a, b := d.Backoff(1, 1, 1), d.Backoff(-1, -1, -1); a != 1 || b != 1 || d.Left() != 0 {
		t.Errorf("Backoff(1, 1, 1): %d, %d, %d left", a, b, d.Left())
	}
	for range 3 {
		if got := d.Backoff(40, 640, 2); got != 60 || d.Left() != 0 {
			t.Errorf("Backoff where none is left: %d, %d left", got, d.Left())
		}
	}
	d.Add(1)
	if got := d.Backoff(40, 640, 2); got != 61 {
		t.Errorf("Backoff by a draw that was added: %d", got)
	}
}
