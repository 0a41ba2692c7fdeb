package octet_test

import (
	"fmt"
	"regexp"
	"strings"
	"testing"

	"slipway/api"
	"slipway/octet"
)

// dottedForm and colonsForm say the forms of P1.4 another way than the program does.
var (
	dottedForm = regexp.MustCompile(`\A(0|[1-9][0-9]?|1[0-9][0-9]|2[0-4][0-9]|25[0-5])(\.(0|[1-9][0-9]?|1[0-9][0-9]|2[0-4][0-9]|25[0-5])){3}\z`)
	colonsForm = regexp.MustCompile(`\A[0-9a-f]{2}(:[0-9a-f]{2}){5}\z`)
)

// TestDotted: P1.4.
func TestDotted(t *testing.T) {
	for ip, want := range map[uint32]string{
		0xc0a80001: "192.168.0.1",
		0x0a000005: "10.0.0.5",
		0:          "0.0.0.0",
		1:          "0.0.0.1",
		0xffffffff: "255.255.255.255",
		0x01020304: "1.2.3.4",
		0x09630a64: "9.99.10.100",
	} {
		if got := octet.Dotted(ip); got != want {
			t.Errorf("Dotted(%x): %q, want %q", ip, got, want)
		}
		if got, e := octet.Undotted(want); got != ip || e != api.OK {
			t.Errorf("Undotted(%q): %x, %d, want %x", want, got, e, ip)
		}
	}
	for b := range uint32(256) {
		for _, shift := range []int{0, 8, 16, 24} {
			ip := b << shift
			want := fmt.Sprintf("%d.%d.%d.%d", ip>>24, ip>>16&255, ip>>8&255, ip&255)
			if got := octet.Dotted(ip); got != want {
				t.Errorf("Dotted(%x): %q, want %q", ip, got, want)
			}
		}
	}
}

// TestUndottedRefuses: P1.4: texts that are no address, and beside them no number.
func TestUndottedRefuses(t *testing.T) {
	for _, s := range []string{
		"", ".", "...", "....", "1", "1.2", "1.2.3", "1.2.3.", ".1.2.3", "1..2.3", "1.2.3.4.", ".1.2.3.4", "1.2.3.4.5", "0.1.2.3.4",
		"192.168.00.1", "01.2.3.4", "1.2.3.04", "00.0.0.0", "1.2.3.256", "256.2.3.4", "1.2.3.1000", "1.2.3.999",
		"1.2.3.4294967300", "4294967297.2.3.4", "1.2.3.18446744073709551620", "1.2.515", "16909060", "4294967295",
		"+1.2.3.4", "-1.2.3.4", "1.2.3.-4", "1.2.3.+4", " 1.2.3.4", "1.2.3.4 ", "1.2.3.4\n", "1.2. 3.4", "1.2.3.4\x00",
		"1.2.3.a", "a.b.c.d", "0x1.2.3.4", "1_0.2.3.4", "1,2,3,4", "1:2:3:4", "1.2.3.4/8", "\xff\xff\xff\xff", "١.٢.٣.٤", "1。2。3。4",
		strings.Repeat("1", 1000000), strings.Repeat(".", 1000000), strings.Repeat("1.", 500000), "1.2.3.4" + strings.Repeat("\x00", 1000000),
	} {
		if ip, e := octet.Undotted(s); ip != 0 || e != api.ErrText {
			t.Errorf("Undotted(%.40q): %x, %d, want 0, ErrText", s, ip, e)
		}
	}
}

// TestColons: P1.4.
func TestColons(t *testing.T) {
	for m, want := range map[api.Mac]string{
		{2, 0, 0x5e, 0x10, 0, 255}:           "02:00:5e:10:00:ff",
		{}:                                   "00:00:00:00:00:00",
		{255, 255, 255, 255, 255, 255}:       "ff:ff:ff:ff:ff:ff",
		{0x01, 0x23, 0x45, 0x67, 0x89, 0xab}: "01:23:45:67:89:ab",
		{0xcd, 0xef, 0xfe, 0xdc, 0xba, 0x98}: "cd:ef:fe:dc:ba:98",
		{0x0a, 0xa0, 0x09, 0x90, 0x0f, 0xf0}: "0a:a0:09:90:0f:f0",
		{0x10, 0x20, 0x30, 0x40, 0x50, 0x6a}: "10:20:30:40:50:6a",
	} {
		if got := octet.Colons(m); got != want {
			t.Errorf("Colons(% x): %q, want %q", m, got, want)
		}
		if got, e := octet.Uncolons(want); got != m || e != api.OK {
			t.Errorf("Uncolons(%q): % x, %d, want % x", want, got, e, m)
		}
	}
	for b := range 256 {
		for i := range 6 {
			m := api.Mac{}
			m[i] = byte(b)
			want := fmt.Sprintf("%02x:%02x:%02x:%02x:%02x:%02x", m[0], m[1], m[2], m[3], m[4], m[5])
			if got := octet.Colons(m); got != want {
				t.Errorf("Colons(% x): %q, want %q", m, got, want)
			}
		}
	}
}

// TestUncolonsRefuses: P1.4: texts that are no station's address, and beside them no station.
func TestUncolonsRefuses(t *testing.T) {
	for _, s := range []string{
		"", ":", ":::::", "02", "02:00:5e:10:00", "02:00:5e:10:00:", ":02:00:5e:10:00", "02:00:5e:10:00:f", "02:00:5e:10:00:ff:", "02:00:5e:10:00:ff:00",
		"02:00:5E:10:00:ff", "02:00:5e:10:00:FF", "2:0:5e:10:0:ff", "02-00-5e-10-00-ff", "02.00.5e.10.00.ff", "02005e1000ff", "0200:5e10:00ff",
		"02:00:5g:10:00:ff", "02:00:5e:10:00:f ", "02:00:5e:10:00:ff ", " 02:00:5e:10:00:ff", "02:00:5e:10:00:ff\n", "02:00:5e:10:00:ff\x00",
		"0x:00:5e:10:00:ff", "+2:00:5e:10:00:ff", "-2:00:5e:10:00:ff", "02::0:5e:10:00:ff", "02:00:5e:10:00::f", "00000000000000000", ":::::::::::::::::",
		"00:00:00:00:00:0:", "00:00:00:00:00:\x00\x00", "00:00:00:00:00:0q", "00:00:00:00:00:@0", "\xff\xff:00:00:00:00:00",
		strings.Repeat("0", 1000000), strings.Repeat("02:", 300000), "02:00:5e:10:00:ff" + strings.Repeat("\x00", 1000000),
	} {
		if m, e := octet.Uncolons(s); m != (api.Mac{}) || e != api.ErrText {
			t.Errorf("Uncolons(%.40q): % x, %d, want zeros, ErrText", s, m, e)
		}
	}
}

// TestTextsAndBack: P1.10: what was told is read as what it was told of.
func TestTextsAndBack(t *testing.T) {
	r := draws()
	for range 20000 {
		ip := r.Uint32()
		if got, e := octet.Undotted(octet.Dotted(ip)); got != ip || e != api.OK {
			t.Errorf("Undotted(Dotted(%x)): %x, %d", ip, got, e)
		}
		m := api.Mac(someBytes(r, 6))
		if got, e := octet.Uncolons(octet.Colons(m)); got != m || e != api.OK {
			t.Errorf("Uncolons(Colons(% x)): % x, %d", m, got, e)
		}
	}
}

// TestJustTheseTexts: P1.10: of all texts near one that is right, just those are taken that are right too.
func TestJustTheseTexts(t *testing.T) {
	for _, s := range []string{"0.0.0.0", "1.20.199.255", "25.9.100.249", "255.255.255.255", "10.0.0.5"} {
		for _, near := range nearTexts(s) {
			ip, e := octet.Undotted(near)
			if right := dottedForm.MatchString(near); right != (e == api.OK) {
				t.Errorf("Undotted(%q): %d, want it taken: %v", near, e, right)
			}
			if e == api.OK && octet.Dotted(ip) != near || e != api.OK && (ip != 0 || e != api.ErrText) {
				t.Errorf("Undotted(%q): %x, %d", near, ip, e)
			}
		}
	}
	for _, s := range []string{"00:00:00:00:00:00", "02:00:5e:10:00:ff", "9a:bc:de:f0:12:34"} {
		for _, near := range nearTexts(s) {
			m, e := octet.Uncolons(near)
			if right := colonsForm.MatchString(near); right != (e == api.OK) {
				t.Errorf("Uncolons(%q): %d, want it taken: %v", near, e, right)
			}
			if e == api.OK && octet.Colons(m) != near || e != api.OK && (m != (api.Mac{}) || e != api.ErrText) {
				t.Errorf("Uncolons(%q): % x, %d", near, m, e)
			}
		}
	}
}

// nearTexts: s with any one byte changed, taken out, or laid in.
func nearTexts(s string) []string {
	var l []string
	for i := range len(s) + 1 {
		for b := range 256 {
			c := string([]byte{byte(b)})
			l = append(l, s[:i]+c+s[i:])
			if i < len(s) {
				l = append(l, s[:i]+c+s[i+1:])
			}
		}
		if i < len(s) {
			l = append(l, s[:i]+s[i+1:])
		}
	}
	return l
}
