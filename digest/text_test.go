package digest_test

import (
	"encoding/hex"
	"strings"
	"testing"

	"slipway/api"
	"slipway/digest"
)

// TestHex: P2.3, and the half of P2.4 that begins with a digest: each byte at each place.
func TestHex(t *testing.T) {
	d := [32]byte{}
	for place := range d {
		for b := range 256 {
			d[place] = byte(b)
			s := digest.Hex(d)
			if s != hex.EncodeToString(d[:]) {
				t.Fatalf("Hex(%x): %s", d, s)
			}
			if back, e := digest.Unhex(s); back != d || e != api.OK {
				t.Fatalf("Unhex(%s): %x, %d", s, back, e)
			}
		}
		d[place] = byte(31*place + 7) // each place another, so that none is taken for its neighbour
	}
}

// TestUnhexBack: P2.4: where Unhex takes a text, Hex tells it again.
func TestUnhexBack(t *testing.T) {
	r := draws()
	for range 1000 {
		b := make([]byte, 64)
		for i := range b {
			b[i] = "0123456789abcdef"[r.Intn(16)]
		}
		d, e := digest.Unhex(string(b))
		if e != api.OK || digest.Hex(d) != string(b) {
			t.Fatalf("Unhex(%s): %x, %d", b, d, e)
		}
	}
	for _, s := range []string{strings.Repeat("0", 64), strings.Repeat("f", 64), "0123456789abcdef" + strings.Repeat("10", 24)} {
		if d, e := digest.Unhex(s); e != api.OK || digest.Hex(d) != s {
			t.Errorf("Unhex(%s): %x, %d", s, d, e)
		}
	}
}

// TestUnhexRefusesSigns: P2.3: at each place just the sixteen digits are taken; beside the error there is no digest.
func TestUnhexRefusesSigns(t *testing.T) {
	good := strings.Repeat("a9", 32)
	for place := range good {
		for b := range 256 {
			s := good[:place] + string([]byte{byte(b)}) + good[place+1:]
			d, e := digest.Unhex(s)
			if strings.Contains("0123456789abcdef", string(rune(b))) {
				if e != api.OK || digest.Hex(d) != s {
					t.Fatalf("Unhex(%q): %x, %d", s, d, e)
				}
			} else if e != api.ErrHex || d != [32]byte{} {
				t.Fatalf("Unhex(%q): %x, %d, want none, ErrHex", s, d, e)
			}
		}
	}
}

// TestUnhexRefusesLengths: P2.3: texts of another length, and some that have 64 digits but not just them.
func TestUnhexRefusesLengths(t *testing.T) {
	for n := range 200 {
		if n == 64 {
			continue
		}
		if d, e := digest.Unhex(strings.Repeat("1", n)); e != api.ErrHex || d != [32]byte{} {
			t.Errorf("Unhex of %d digits: %x, %d, want none, ErrHex", n, d, e)
		}
	}
	good := strings.Repeat("0f", 32)
	for _, s := range []string{
		" " + good, good + " ", good + "\n", "\x00" + good, good + "\x00", "0x" + good, "0x" + good[2:], strings.ToUpper(good),
		good + good, good[:62] + "é", "é" + good[2:], strings.Repeat("é", 32), strings.Repeat("١", 64), good[:61] + "a\u0301",
		strings.Repeat("0", 1000000), strings.Repeat("\xff", 64), good[:32] + ":" + good[32:], good[:31] + ":" + good[32:],
	} {
		if d, e := digest.Unhex(s); e != api.ErrHex || d != [32]byte{} {
			t.Errorf("Unhex(%.80q): %x, %d, want none, ErrHex", s, d, e)
		}
	}
}
