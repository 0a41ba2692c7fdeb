package tftp_test

import (
	"bytes"
	"fmt"
	"testing"

	"slipway/api"
	"slipway/tftp"
)

// checkThereAndBack: the packet comes back; what its Op doesn't use is zero then.
func checkThereAndBack(t *testing.T, p api.Tftp) {
	t.Helper()
	for _, q := range []api.Tftp{p, filled(p)} {
		b, e := tftp.Encode(q)
		if e != api.OK {
			t.Fatalf("Encode(%.200q): %d", fmt.Sprint(q), e)
		}
		checkTaken(t, b, p)
	}
}

// TestDecodeOfEncode: P17.6: Decode of what Encode wrote is the packet.
func TestDecodeOfEncode(t *testing.T) {
	for _, p := range packets() {
		checkThereAndBack(t, p)
	}
	r := draws()
	for range 20000 {
		checkThereAndBack(t, somePacket(r))
	}
}

// checkBackAgain: what was told is written again, and read so.
func checkBackAgain(t *testing.T, b []byte) bool {
	t.Helper()
	p, e := tftp.Decode(b)
	if e != api.OK {
		return false
	}
	again, e := tftp.Encode(p)
	if e != api.OK || !bytes.Equal(again, plainForm(p)) {
		t.Errorf("Encode of what Decode(%.200q) told: %.200q, %d", b, again, e)
	}
	checkTaken(t, again, p)
	return true
}

// TestEncodeOfDecode: P17.6: with great letters, unknown names, bytes behind.
func TestEncodeOfDecode(t *testing.T) {
	r := draws()
	for _, p := range packets() {
		if !checkBackAgain(t, plainForm(p)) {
			t.Errorf("%.200q wasn't taken", fmt.Sprint(p))
		}
	}
	taken := 0
	for range 20000 {
		b := plainForm(somePacket(r))
		switch r.IntN(4) {
		case 0:
			b = someForm(r, pick(r, byte(1), 6))
		case 1:
			b = append(b, someBytes(r, r.IntN(9))...)
		case 2:
			b = wire(1, "File."+someCase(r, "octet")+"."+someCase(r, "tsize")+".5.Foo.x."+someCase(r, "windowsize")+".6.")
		}
		if checkBackAgain(t, b) {
			taken++
		}
	}
	if taken < 10000 {
		t.Errorf("%d were taken", taken)
	}
}

// TestWrittenSo: P17.6: bytes that Encode would write are written again just so.
func TestWrittenSo(t *testing.T) {
	r := draws()
	for range 5000 {
		b := plainForm(somePacket(r))
		p, _ := tftp.Decode(b)
		if again, e := tftp.Encode(p); e != api.OK || !bytes.Equal(again, b) {
			t.Errorf("Encode of Decode(%.200q): %.200q, %d", b, again, e)
		}
	}
}
