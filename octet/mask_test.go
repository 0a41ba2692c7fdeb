package octet_test

import (
	"testing"

	"slipway/api"
	"slipway/octet"
)

// TestEveryone: P1.5; what was answered is the caller's own.
func TestEveryone(t *testing.T) {
	m := octet.Everyone()
	if m != (api.Mac{255, 255, 255, 255, 255, 255}) {
		t.Errorf("Everyone: % x", m)
	}
	m[0] = 0
	if octet.Everyone() == m {
		t.Error("Everyone: two answers share memory")
	}
}

// TestGroup: P1.5: the first byte's lowest bit, and nothing else.
func TestGroup(t *testing.T) {
	if !octet.Group(octet.Everyone()) || octet.Group(api.Mac{2}) || !octet.Group(api.Mac{1}) {
		t.Error("Group: not as in the examples")
	}
	for b := range 256 {
		bare, full := api.Mac{byte(b)}, api.Mac{byte(b), 255, 255, 255, 255, 255}
		want := b%2 == 1
		if octet.Group(bare) != want || octet.Group(full) != want {
			t.Errorf("Group(%02x ..): want %v", b, want)
		}
	}
}

// TestOnes: P1.6.
func TestOnes(t *testing.T) {
	for m, want := range map[uint32]int{
		0xffffff00: 24, 0: 0, 0xffffffff: 32, 0x80000000: 1, 0xfffffffe: 31, 0xc0000000: 2,
		0xff00ff00: -1, 0x7f000000: -1, 1: -1, 0x7fffffff: -1, 0xfffffffd: -1, 0x40000000: -1, 0x80000001: -1, 0x00ffffff: -1,
	} {
		checkOnes(t, m, want)
	}
	for n := range 33 {
		checkOnes(t, maskOf(n), n)
	}
}

// TestOnesOfNearMasks: P1.6: a mask with bits turned is one only if no one stands behind a zero.
func TestOnesOfNearMasks(t *testing.T) {
	for n := range 33 {
		for i := range 32 {
			for j := range 32 {
				m := maskOf(n) ^ 1<<i ^ 1<<j
				checkOnes(t, m, plainOnes(m))
			}
		}
	}
	r := draws()
	for range 10000 {
		m := r.Uint32()
		checkOnes(t, m, plainOnes(m))
	}
}

func checkOnes(t *testing.T, m uint32, want int) {
	t.Helper()
	if got := octet.Ones(m); got != want {
		t.Errorf("Ones(%08x): %d, want %d", m, got, want)
	}
	if got := octet.IsMask(m); got != (want != -1) {
		t.Errorf("IsMask(%08x): %v", m, got)
	}
}

func plainOnes(m uint32) int {
	ones, zero := 0, false
	for i := 31; i >= 0; i-- {
		one := m>>i&1 == 1
		if one && zero {
			return -1
		}
		if one {
			ones++
		}
		zero = zero || !one
	}
	return ones
}

// TestIsHost: P1.6: the first byte alone tells.
func TestIsHost(t *testing.T) {
	for ip, want := range map[uint32]bool{
		0x0a000001: true, 0x00000001: false, 0x7f000001: false, 0xdfffffff: true, 0xe0000001: false,
		0: false, 0xffffffff: false, 0x01000000: true, 0x00ffffff: false, 0x7effffff: true, 0x7fffffff: false, 0x80000000: true, 0xdf000000: true, 0xe0000000: false,
	} {
		if got := octet.IsHost(ip); got != want {
			t.Errorf("IsHost(%s): %v", octet.Dotted(ip), got)
		}
	}
	for first := range uint32(256) {
		want := first >= 1 && first <= 223 && first != 127
		for _, rest := range []uint32{0, 1, 0x7f0000, 0xffffff} {
			if got := octet.IsHost(first<<24 | rest); got != want {
				t.Errorf("IsHost(%s): %v", octet.Dotted(first<<24|rest), got)
			}
		}
	}
}

func maskOf(ones int) uint32 { return uint32(uint64(0xffffffff00000000) >> ones) }
