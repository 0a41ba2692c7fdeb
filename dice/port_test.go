package dice_test

import (
	"math"
	"slices"
	"testing"

	"slipway/dice"
)

// TestExampleOfPort: the chapter's table, its third row.
func TestExampleOfPort(t *testing.T) {
	d := dice.New([]uint32{0, 16383, 16384, 65537})
	got := []int{d.Port(), d.Port(), d.Port(), d.Port(), d.Port()}
	if want := []int{49152, 65535, 49152, 49153, 49152}; !slices.Equal(got, want) {
		t.Errorf("Port: %v, want %v", got, want)
	}
}

// TestPortEdges: P6.3: one draw each, up to the greatest.
func TestPortEdges(t *testing.T) {
	for _, x := range []struct {
		draw uint32
		want int
	}{{0, 49152}, {1, 49153}, {16382, 65534}, {16383, 65535}, {16384, 49152}, {16385, 49153}, {32767, 65535}, {32768, 49152}, {65535, 65535}, {65536, 49152}, {1<<31 - 1, 65535}, {1 << 31, 49152}, {math.MaxUint32 - 16384, 65535}, {math.MaxUint32 - 16383, 49152}, {math.MaxUint32 - 1, 65534}, {math.MaxUint32, 65535}} {
		d := dice.New([]uint32{x.draw, 77})
		if got := d.Port(); got != x.want || d.Left() != 1 || d.Next() != 77 {
			t.Errorf("Port of %d: %d, want %d", x.draw, got, x.want)
		}
	}
}

// TestAllPorts: P6.3, P6.5: 49152 to 65535, each of them just once for 16384 draws in a row.
func TestAllPorts(t *testing.T) {
	for _, first := range []uint32{0, 5, 16384, 1 << 31, math.MaxUint32 - 16383} {
		came := map[int]int{}
		for i := range 16384 {
			n := newPair(t, first+uint32(i)).port()
			if n < 49152 || n > 65535 {
				t.Fatalf("Port of %d: %d", first+uint32(i), n)
			}
			came[n]++
		}
		if len(came) != 16384 {
			t.Errorf("from the draw %d on: %d ports", first, len(came))
		}
	}
}
