package frame_test

import (
	"testing"

	"slipway/api"
	"slipway/frame"
)

func checkMine(t *testing.T, own, dst, src api.Mac, want bool) {
	t.Helper()
	if got := frame.Mine(own, api.Frame{Dst: dst, Src: src}); got != want {
		t.Errorf("Mine(% x, Dst % x, Src % x): %v", own, dst, src, got)
	}
}

// TestMineExamples: P3.3, the chapter's table and what stands beside it.
func TestMineExamples(t *testing.T) {
	own, other, third := api.Mac{2, 0, 0, 0, 0, 1}, api.Mac{2, 0, 0, 0, 0, 2}, api.Mac{2, 0, 0, 0, 0, 3}
	group := api.Mac{1, 0, 0x5e, 0, 0, 1}
	for _, x := range []struct {
		dst, src api.Mac
		want     bool
	}{
		{own, other, true},
		{everyone(), other, true},
		{third, other, false},
		{own, everyone(), false},
		{group, other, false},
		{own, group, false},
		{everyone(), everyone(), false},
		{everyone(), group, false},
		{third, group, false},
		{own, own, true},
		{everyone(), own, true},
		{other, own, false},
		{own, api.Mac{}, true},
		{api.Mac{}, other, false},
	} {
		checkMine(t, own, x.dst, x.src, x.want)
	}
}

// TestMineOwn: P3.3: whatever own is, none, a group address or everyone too.
func TestMineOwn(t *testing.T) {
	src := api.Mac{2, 0, 0, 0, 0, 2}
	group := api.Mac{1, 0, 0x5e, 0, 0, 1}
	for _, own := range []api.Mac{{}, group, everyone(), src, {3}} {
		checkMine(t, own, own, src, true)
		checkMine(t, own, everyone(), src, true)
		checkMine(t, own, api.Mac{1, 0, 0x5e, 0, 0, 2}, src, false)
		checkMine(t, own, own, group, false)
		checkMine(t, own, everyone(), group, false)
	}
	checkMine(t, everyone(), api.Mac{2}, src, false)
	checkMine(t, api.Mac{}, api.Mac{2}, src, false)
}

// TestMineNearDst: P3.3: one bit beside own, or beside everyone, is another station.
func TestMineNearDst(t *testing.T) {
	src := api.Mac{2, 0, 0, 0, 0, 2}
	for _, own := range []api.Mac{{2, 0, 0, 0, 0, 1}, {}, {1, 2, 3, 4, 5, 6}} {
		for bit := range 48 {
			for _, dst := range []api.Mac{own, everyone()} {
				dst[bit/8] ^= 1 << (bit % 8)
				checkMine(t, own, dst, src, false)
			}
		}
	}
}

// TestMineSrc: P3.3: of Src the first byte's lowest bit tells, and nothing else.
func TestMineSrc(t *testing.T) {
	own := api.Mac{2, 0, 0, 0, 0, 1}
	for first := range 256 {
		want := first%2 == 0
		for _, src := range []api.Mac{{byte(first)}, {byte(first), 255, 255, 255, 255, 255}, {byte(first), 1, 1, 1, 1, 1}} {
			checkMine(t, own, own, src, want)
			checkMine(t, own, everyone(), src, want)
			checkMine(t, own, api.Mac{4}, src, false)
		}
	}
}

// TestMineLooksAtStationsAlone: P3.3: Kind and Data are not looked at.
func TestMineLooksAtStationsAlone(t *testing.T) {
	own, other := api.Mac{2, 0, 0, 0, 0, 1}, api.Mac{2, 0, 0, 0, 0, 2}
	for _, kind := range []int{-1, 0, 1535, 1536, 2048, 2054, 65535, 65536} {
		for _, n := range []int{0, 45, 46, 1500, 1501, 5000} {
			f := api.Frame{Dst: own, Src: other, Kind: kind, Data: make([]byte, n)}
			if !frame.Mine(own, f) {
				t.Errorf("Mine of kind %d, %d bytes: false", kind, n)
			}
			f.Dst = other
			if frame.Mine(own, f) {
				t.Errorf("Mine of kind %d, %d bytes, for another one: true", kind, n)
			}
		}
	}
}
