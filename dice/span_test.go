package dice_test

import (
	"math"
	"testing"

	"slipway/dice"
)

// TestExampleOfSpan: the chapter's table, its last row, and numbers about the edges, reckoned by hand.
func TestExampleOfSpan(t *testing.T) {
	const top = math.MaxUint32
	for _, x := range []struct {
		draw         uint32
		lo, hi, want int
	}{
		{9, math.MinInt, math.MaxInt, math.MinInt + 9},
		{0, math.MinInt, math.MaxInt, math.MinInt},
		{top, math.MinInt, math.MaxInt, math.MinInt + top},
		{top, math.MinInt, math.MaxInt - 1, math.MinInt + top},
		{top, math.MinInt + 1, math.MaxInt, math.MinInt + 1 + top},
		{top, math.MinInt, -1, math.MinInt + top},
		{top, math.MinInt, 0, math.MinInt + top},
		{top, -1, math.MaxInt, top - 1},
		{top, 0, math.MaxInt, top},
		{top, 0, top - 2, 1}, // 2^32 - 2 numbers
		{top, 0, top - 1, 0}, // 2^32 - 1
		{top - 1, 0, top - 1, top - 1},
		{top, 0, top, top},     // 2^32
		{top, 0, top + 1, top}, // 2^32 + 1
		{top, -5, top - 6, -5},
		{top, -5, top - 5, top - 5},
		{top, math.MaxInt - top + 1, math.MaxInt, math.MaxInt - top + 1},
		{top, math.MaxInt - top, math.MaxInt, math.MaxInt},
		{top, math.MinInt, math.MinInt + top - 1, math.MinInt},
		{top, math.MinInt, math.MinInt + top, math.MinInt + top},
		{top, 0, 1, 1},
		{top - 1, 0, 1, 0},
		{top, math.MaxInt - 1, math.MaxInt, math.MaxInt},
		{top, math.MinInt, math.MinInt + 1, math.MinInt + 1},
		{1 << 31, 0, 1<<31 - 1, 0},
		{1 << 31, 0, 1 << 31, 1 << 31},
	} {
		d := dice.New([]uint32{x.draw, 77})
		if got := d.Span(x.lo, x.hi); got != x.want || d.Left() != 1 || d.Next() != 77 {
			t.Errorf("Span(%d, %d) of %d: %d, want %d", x.lo, x.hi, x.draw, got, x.want)
		}
	}
}

// TestSpanWithoutChoice: P6.2: lo, and no draw is used, where hi is at lo or below, as far as an int allows.
func TestSpanWithoutChoice(t *testing.T) {
	for _, lo := range edgeInts {
		for _, hi := range []int{lo, lo - 1, math.MinInt, math.MinInt + 1, -lo, lo / 2} {
			if hi > lo {
				continue
			}
			d := dice.New([]uint32{5})
			if got := d.Span(lo, hi); got != lo || d.Left() != 1 || d.Next() != 5 {
				t.Errorf("Span(%d, %d): %d", lo, hi, got)
			}
		}
	}
}

// TestSpanEdges: P6.2: exact numbers, however far apart lo and hi are.
func TestSpanEdges(t *testing.T) {
	for _, lo := range edgeInts {
		for _, hi := range edgeInts {
			p := newPair(t, edgeDraws...)
			for range edgeDraws {
				p.span(lo, hi)
			}
		}
	}
}

// TestSpanAboutTwoToThe32: P6.2: where hi - lo + 1 is about 2^32, and about its half.
func TestSpanAboutTwoToThe32(t *testing.T) {
	for _, lo := range []int{math.MinInt, -1 << 32, -1 << 31, -7, 0, 1, 1 << 50, math.MaxInt - 1<<32 - 4} {
		for _, many := range []int{1 << 31, 1 << 32} {
			for off := -4; off <= 4; off++ {
				p := newPair(t, edgeDraws...)
				for range edgeDraws {
					p.span(lo, lo+(many+off-1))
				}
			}
		}
	}
}

// TestSpanWithin: P6.5: lo to hi, and all between them comes, hi just above lo too.
func TestSpanWithin(t *testing.T) {
	for _, lo := range []int{math.MinInt, -9, -3, -1, 0, 1, 1000, math.MaxInt - 10} {
		for gap := 1; gap <= 10; gap++ {
			came := map[int]int{}
			for draw := range 3 * (gap + 1) {
				n := newPair(t, uint32(draw)).span(lo, lo+gap)
				if n < lo || n > lo+gap {
					t.Errorf("Span(%d, %d): %d", lo, lo+gap, n)
				}
				came[n]++
			}
			for i := range gap + 1 {
				if came[lo+i] != 3 {
					t.Errorf("Span(%d, %d): %d came %d times of 3", lo, lo+gap, lo+i, came[lo+i])
				}
			}
		}
	}
	r := chance()
	for range 100000 {
		lo, hi := int(r.Uint64()>>r.IntN(64)), int(r.Uint64()>>r.IntN(64))
		if n := dice.New(someDraws(r, 1)).Span(lo, hi); n < lo || n > max(lo, hi) {
			t.Errorf("Span(%d, %d): %d", lo, hi, n)
		}
	}
}
