package dice_test

import (
	"math"
	"math/big"
	"math/rand/v2"
	"slices"
	"testing"

	"slipway/api"
	"slipway/dice"
)

// chance is the same row of numbers at each run: a fault that it shows can be looked at again.
func chance() *rand.Rand { return rand.New(rand.NewPCG(6, 1)) }

// someDraws has no draw 0, so that one which is there is told from none.
func someDraws(r *rand.Rand, n int) []uint32 {
	l := make([]uint32, n)
	for i := range l {
		l[i] = 1 + r.Uint32N(math.MaxUint32)
	}
	return l
}

// The draws about those at which an answer turns.
var edgeDraws = []uint32{0, 1, 2, 3, 20, 21, 22, 16383, 16384, 65535, 65536, 1<<31 - 1, 1 << 31, math.MaxUint32 - 2, math.MaxUint32 - 1, math.MaxUint32}

// The ints about those at which an answer turns.
var edgeInts = []int{math.MinInt, math.MinInt + 1, math.MinInt + math.MaxUint32, -1 << 50, -1 << 32, math.MinInt32, -2, -1, 0, 1, 2, 3, 4, 5, 40, 640, math.MaxInt32, math.MaxUint32 - 1, math.MaxUint32, 1 << 32, 1<<32 + 1, api.MaxTime / 2, api.MaxTime/2 + 1, api.MaxTime - 1, api.MaxTime, api.MaxTime + 1, 2 * api.MaxTime, 1 << 62, math.MaxInt - math.MaxUint32, math.MaxInt - 1, math.MaxInt}

func number(n int) *big.Int { return big.NewInt(int64(n)) }

// plainRest is the draw's rest by many, as exact numbers.
func plainRest(draw uint32, many *big.Int) *big.Int {
	return new(big.Int).Rem(new(big.Int).SetUint64(uint64(draw)), many)
}

// plainSpan is what one draw makes of lo and hi, where hi is above lo.
func plainSpan(draw uint32, lo, hi int) int {
	many := new(big.Int).Sub(number(hi), number(lo))
	many.Add(many, number(1))
	return int(new(big.Int).Add(number(lo), plainRest(draw, many)).Int64())
}

// plainWait is the b of the chapter: the lesser of most and base doubled try - 1 times.
func plainWait(base, most, try int) *big.Int {
	base, most, try = max(1, min(base, 1<<50)), max(1, min(most, 1<<50)), max(1, try)
	// Behind 2000 doublings it is above most for long.
	b := new(big.Int).Lsh(number(base), uint(min(try-1, 2000)))
	if b.Cmp(number(most)) > 0 {
		return number(most)
	}
	return b
}

// plainBackoff is what one draw makes of the three.
func plainBackoff(draw uint32, base, most, try int) int {
	b := plainWait(base, most, try)
	many := new(big.Int).Add(new(big.Int).Quo(b, number(2)), number(1))
	n := new(big.Int).Sub(b, new(big.Int).Quo(b, number(4)))
	return int(n.Add(n, plainRest(draw, many)).Int64())
}

// pair is a Dice, and the draws that it should have left.
type pair struct {
	t    *testing.T
	dice *dice.Dice
	left []uint32
}

func newPair(t *testing.T, draws ...uint32) *pair {
	t.Helper()
	p := &pair{t: t, dice: dice.New(draws), left: slices.Clone(draws)}
	if p.dice == nil {
		t.Fatalf("New of %d draws: nil", len(draws))
	}
	p.look("New")
	return p
}

// look: how many are left, which uses none.
func (p *pair) look(behind string) {
	p.t.Helper()
	for range 2 {
		if n := p.dice.Left(); n != len(p.left) {
			p.t.Fatalf("behind %s: Left: %d, want %d", behind, n, len(p.left))
		}
	}
}

func (p *pair) add(draws ...uint32) {
	p.t.Helper()
	p.dice.Add(draws...)
	p.left = append(slices.Clone(p.left), draws...)
	p.look("Add")
}

// use is the draw that the next call should use.
func (p *pair) use() uint32 {
	if len(p.left) == 0 {
		return 0
	}
	draw := p.left[0]
	p.left = p.left[1:]
	return draw
}

func (p *pair) next() uint32 {
	p.t.Helper()
	want := p.use()
	if got := p.dice.Next(); got != want {
		p.t.Fatalf("Next: %d, want %d", got, want)
	}
	p.look("Next")
	return want
}

func (p *pair) span(lo, hi int) int {
	p.t.Helper()
	want := lo
	if hi > lo {
		want = plainSpan(p.use(), lo, hi)
	}
	got := p.dice.Span(lo, hi)
	if got != want {
		p.t.Errorf("Span(%d, %d): %d, want %d", lo, hi, got, want)
	}
	p.look("Span")
	return got
}

func (p *pair) port() int {
	p.t.Helper()
	want := 49152 + int(p.use()%16384)
	got := p.dice.Port()
	if got != want {
		p.t.Errorf("Port: %d, want %d", got, want)
	}
	p.look("Port")
	return got
}

func (p *pair) backoff(base, most, try int) int {
	p.t.Helper()
	want := plainBackoff(p.use(), base, most, try)
	got := p.dice.Backoff(base, most, try)
	if got != want {
		p.t.Errorf("Backoff(%d, %d, %d): %d, want %d", base, most, try, got, want)
	}
	p.look("Backoff")
	return got
}

// empty uses all that is left, and then looks for more.
func (p *pair) empty() {
	p.t.Helper()
	for len(p.left) > 0 {
		p.next()
	}
	for range 3 {
		p.next()
	}
}

// step makes one call of any kind.
func (p *pair) step(r *rand.Rand) {
	p.t.Helper()
	some := func() int { return edgeInts[r.IntN(len(edgeInts))] }
	switch r.IntN(6) {
	case 0:
		p.add(someDraws(r, r.IntN(8))...)
	case 1:
		p.next()
	case 2:
		p.span(some(), some())
	case 3:
		p.port()
	case 4:
		p.backoff(some(), some(), r.IntN(70)-2)
	case 5:
		p.span(r.IntN(9), r.IntN(9))
	}
}
