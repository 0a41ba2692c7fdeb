package icmp_test

import (
	"bytes"
	"testing"

	"slipway/api"
	"slipway/icmp"
)

// TestErrorNumbers: the section Errors.
func TestErrorNumbers(t *testing.T) {
	var got []api.Errno
	for _, m := range []api.Icmp{{Kind: 8, Code: -1}, {Kind: 8, Data: make([]byte, 1473)}, {Kind: 5}, {Kind: 8}} {
		_, e := icmp.Encode(m)
		got = append(got, e)
	}
	for _, b := range [][]byte{nil, make([]byte, 1481), make([]byte, 8), {5, 0, 0xfa, 0xff, 0, 0, 0, 0}, {0, 0, 0xff, 0xff, 0, 0, 0, 0}} {
		_, e := icmp.Decode(b)
		got = append(got, e)
	}
	for i, want := range []api.Errno{1, 2, 140, 0, 5, 2, 93, 140, 0} {
		if got[i] != want {
			t.Errorf("error %d: %d, want %d", i, got[i], want)
		}
	}
}

// TestEncodeExamples: P14.1, the chapter's table.
func TestEncodeExamples(t *testing.T) {
	if b, e := icmp.Encode(chapterQuestion()); e != api.OK || !bytes.Equal(b, chapterBytes()) {
		t.Errorf("Encode: % x, %d, want % x", b, e, chapterBytes())
	}
	a, _ := icmp.Answer(chapterQuestion())
	want := []byte{0, 0, 0x9e, 0x9a, 0, 1, 0, 2, 0x61, 0x62}
	if b, e := icmp.Encode(a); e != api.OK || !bytes.Equal(b, want) {
		t.Errorf("Encode of the answer: % x, %d, want % x", b, e, want)
	}
	checkUnlaid(t, api.Icmp{Kind: 5}, api.ErrIcmp)
	checkUnlaid(t, api.Icmp{Kind: api.IcmpAsk, Code: 256}, api.ErrArg)
	checkUnlaid(t, api.Icmp{Kind: api.IcmpAsk, Data: make([]byte, 1473)}, api.ErrLong)
	checkUnlaid(t, api.Icmp{Kind: 5, Code: 256}, api.ErrIcmp)
}

// TestEncodePlaces: P14.1, the form: each byte at its place, none taken for its neighbour.
func TestEncodePlaces(t *testing.T) {
	want := []byte{0x03, 0x12, 0x10, 0x65, 0x21, 0x22, 0x23, 0x24, 0x41, 0x42, 0x67}
	m := api.Icmp{Kind: 3, Code: 0x12, Rest: 0x21222324, Data: []byte{0x41, 0x42, 0x67}}
	if b, e := icmp.Encode(m); e != api.OK || !bytes.Equal(b, want) {
		t.Errorf("Encode: % x, %d, want % x", b, e, want)
	}
}

// TestEncodeKinds: P14.1: the three kinds are laid, whatever else stands there; all others are ErrIcmp, their neighbours and those beyond a byte with them.
func TestEncodeKinds(t *testing.T) {
	for kind := -300; kind < 600; kind++ {
		for _, m := range []api.Icmp{{Kind: kind}, {Kind: kind, Code: 255, Rest: 7, Data: []byte{1, 2, 3}}} {
			if kind == 0 || kind == 3 || kind == 8 {
				checkLaid(t, m)
			} else {
				checkUnlaid(t, m, api.ErrIcmp)
			}
		}
	}
	for _, kind := range otherKinds() {
		checkUnlaid(t, api.Icmp{Kind: kind, Rest: 9, Data: []byte{1}}, api.ErrIcmp)
	}
}

// TestEncodeCodes: P14.1: every code within the bounds is laid with each kind; those beyond are ErrArg.
func TestEncodeCodes(t *testing.T) {
	for _, kind := range kinds() {
		for code := range 256 {
			checkLaid(t, api.Icmp{Kind: kind, Code: code, Rest: 5, Data: []byte{9}})
		}
		for _, code := range strangeCodes() {
			checkUnlaid(t, api.Icmp{Kind: kind, Code: code, Rest: 5, Data: []byte{9}}, api.ErrArg)
		}
	}
}

// TestEncodeLengths: P14.1: Data of all lengths up to beyond the limit, and of none.
func TestEncodeLengths(t *testing.T) {
	data := someData(3000)
	for _, kind := range kinds() {
		checkLaid(t, api.Icmp{Kind: kind, Data: nil})
		checkLaid(t, api.Icmp{Kind: kind, Data: []byte{}})
		for n := range data {
			if m := (api.Icmp{Kind: kind, Code: 1, Rest: 2, Data: data[:n]}); n <= 1472 {
				checkLaid(t, m)
			} else {
				checkUnlaid(t, m, api.ErrLong)
			}
		}
		for _, n := range []int{65527, 65535, 65536, 65544, 1 << 20} {
			checkUnlaid(t, api.Icmp{Kind: kind, Data: make([]byte, n)}, api.ErrLong)
		}
	}
}

// TestEncodeErrorOrder: P14.1 with R5: another kind comes ahead of a wrong code, and that ahead of too much Data.
func TestEncodeErrorOrder(t *testing.T) {
	for _, n := range []int{0, 1, 1472, 1473, 65536} {
		data := make([]byte, n)
		for _, code := range strangeCodes() {
			for _, kind := range otherKinds() {
				checkUnlaid(t, api.Icmp{Kind: kind, Code: code, Data: data}, api.ErrIcmp)
				checkUnlaid(t, api.Icmp{Kind: kind, Code: 255, Data: data}, api.ErrIcmp)
			}
			for _, kind := range kinds() {
				checkUnlaid(t, api.Icmp{Kind: kind, Code: code, Data: data}, api.ErrArg)
			}
		}
	}
}

// TestEncodeAllSums: P14.1: every sum is laid for one value of a word of Data, 0 with them; FFFF where all is zeros, and nowhere else.
func TestEncodeAllSums(t *testing.T) {
	for _, m := range []api.Icmp{{Kind: 0}, {Kind: 8}} {
		seen := make([]bool, 65536)
		for n := range 65536 {
			m.Data = []byte{byte(n / 256), byte(n % 256)}
			b, e := icmp.Encode(m)
			if e != api.OK || !bytes.Equal(b, plainForm(m)) {
				t.Fatalf("Encode: % x, %d, want % x", b, e, plainForm(m))
			}
			seen[int(b[2])*256+int(b[3])] = true
		}
		for sum, was := range seen {
			if want := m.Kind == 0 || sum != 65535; was != want {
				t.Errorf("kind %d: the sum %04x was laid: %v", m.Kind, sum, was)
			}
		}
	}
}

// TestEncodeZeroSum: P14.1: a sum that comes out as 0 is laid as 0, and that of zeros alone as FFFF.
func TestEncodeZeroSum(t *testing.T) {
	r := draws()
	for n := range 1473 {
		m := someMessage(r, n)
		m.Code |= 1 // something is there beside zeros
		m = ofZeroSum(m)
		if b, e := icmp.Encode(m); e != api.OK || b[2] != 0 || b[3] != 0 {
			t.Errorf("Encode of %d bytes, whose sum is 0: % x, %d", n, b, e)
		}
		checkLaid(t, m)
		zeros := api.Icmp{Data: make([]byte, n)}
		if b, e := icmp.Encode(zeros); e != api.OK || b[2] != 255 || b[3] != 255 {
			t.Errorf("Encode of %d zeros: % x, %d", n, b, e)
		}
	}
}

// TestEncodeAny: P14.1, messages of all kinds.
func TestEncodeAny(t *testing.T) {
	r := draws()
	for _, m := range edgeMessages() {
		checkLaid(t, m)
	}
	for i := range 50000 {
		m := someMessage(r, i%100)
		checkLaid(t, m)
		m.Kind = r.IntN(12) - 1
		m.Code = r.IntN(260) - 2
		checkEncode(t, m)
	}
}
