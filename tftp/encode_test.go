package tftp_test

import (
	"math"
	"slices"
	"strings"
	"testing"

	"slipway/api"
	"slipway/tftp"
)

func read(file, mode string, l ...api.Choice) api.Tftp {
	return api.Tftp{Op: api.TftpRead, File: file, Mode: mode, Choices: l}
}

// TestEncodeExamples: P17.1, the chapter's table.
func TestEncodeExamples(t *testing.T) {
	for _, x := range []struct {
		p    api.Tftp
		want string
	}{
		{read("a", "octet", ch("blksize", 1428, "tsize", 0)...), "\x00\x01" + points("a.octet.blksize.1428.tsize.0.")},
		{api.Tftp{Op: 3, Block: 258, Data: []byte{0x61}}, "\x00\x03\x01\x02a"},
		{api.Tftp{Op: 4, Block: 65535}, "\x00\x04\xff\xff"},
		{api.Tftp{Op: 5, Code: 1, Text: "no"}, "\x00\x05\x00\x01no\x00"},
		{api.Tftp{Op: 6, Choices: ch("windowsize", 16, "blksize", 8)}, "\x00\x06" + points("windowsize.16.blksize.8.")},
		{api.Tftp{Op: 6}, "\x00\x06"},
		{read("a", "octet"), "\x00\x01a\x00octet\x00"},
	} {
		if b, e := tftp.Encode(x.p); string(b) != x.want || e != api.OK {
			t.Errorf("Encode(%v): %q, %d, want %q", x.p, b, e, x.want)
		}
	}
}

// TestEncodeOps: P17.1: the Ops of the table, and no others.
func TestEncodeOps(t *testing.T) {
	for _, op := range append(strange(), 0, 1, 2, 3, 4, 5, 6, 7, 8, 255, 256, 257, 259, 260, 65535, 65536, 65537, 65540) {
		p := api.Tftp{Op: op, File: "a", Mode: "octet", Choices: ch("tsize", 1), Block: 5, Data: []byte("d"), Code: 6, Text: "t"}
		err := checkEncode(t, p)
		if taken := op == 1 || op >= 3 && op <= 6; taken != (err == api.OK) {
			t.Errorf("the Op %d: %d", op, err)
		}
		// An Op that is none is told ahead of all other faults.
		checkEncode(t, api.Tftp{Op: op, File: "\x00", Mode: "mail", Choices: ch("foo", -1), Block: -1, Data: make([]byte, 65465), Code: -1, Text: "\x00"})
	}
	checkUnlaid(t, api.Tftp{}, api.ErrOp)
	checkUnlaid(t, api.Tftp{Op: 2, File: "a", Mode: "octet"}, api.ErrOp)
}

// TestEncodeFile: P17.1: 1 to 64 bytes, none of them 0; any others.
func TestEncodeFile(t *testing.T) {
	r := draws()
	for n := range 200 {
		for _, file := range []string{strings.Repeat("f", n), strings.Repeat("\xff", n), someText(r, n)} {
			if n >= 1 && n <= 64 {
				checkLaid(t, read(file, "octet", ch("tsize", 0)...))
			} else {
				checkUnlaid(t, read(file, "octet", ch("tsize", 0)...), api.ErrName)
			}
		}
	}
	for _, n := range []int{256, 257, 320, 65536 + 1} {
		checkUnlaid(t, read(strings.Repeat("f", n), "octet"), api.ErrName)
	}
	for _, n := range []int{1, 2, 3, 63, 64, 65} {
		for at := range n {
			checkUnlaid(t, read(strings.Repeat("a", at)+"\x00"+strings.Repeat("b", n-at-1), "octet"), api.ErrName)
		}
	}
	// 64 bytes, not letters: of two bytes each only 32 are taken.
	checkLaid(t, read(strings.Repeat("\u00fc", 32), "octet"))
	checkUnlaid(t, read(strings.Repeat("\u00fc", 33), "octet"), api.ErrName)
}

// TestEncodeMode: P17.1: `octet`, in small letters, and nothing else.
func TestEncodeMode(t *testing.T) {
	checkLaid(t, read("a", "octet"))
	for _, mode := range []string{"", "o", "octe", "octets", " octet", "octet ", "OCTET", "Octet", "octeT", "oCtEt", "mail", "netascii", "octet\x00", "\x00octet", "oct\x00et", "octe\xff", "0ctet", "octe\u0165", "blksize"} {
		checkUnlaid(t, read("a", mode), api.ErrName)
		checkUnlaid(t, read("a", mode, ch("tsize", 1)...), api.ErrName)
	}
}

// TestEncodeChoices: P17.1: known names in any order, each once, of Read and Agree alike.
func TestEncodeChoices(t *testing.T) {
	both := func(l []api.Choice, err api.Errno) {
		t.Helper()
		for _, p := range []api.Tftp{{Op: 1, File: "f", Mode: "octet", Choices: l}, {Op: 6, Choices: l}} {
			if err == api.OK {
				checkLaid(t, p)
			} else {
				checkUnlaid(t, p, err)
			}
		}
	}
	both(nil, api.OK)
	both([]api.Choice{}, api.OK)
	all := ch("blksize", 1428, "windowsize", 4, "tsize", 0)
	for _, order := range [][3]int{{0, 1, 2}, {0, 2, 1}, {1, 0, 2}, {1, 2, 0}, {2, 0, 1}, {2, 1, 0}} {
		l := []api.Choice{all[order[0]], all[order[1]], all[order[2]]}
		for n := range 4 {
			both(l[:n], api.OK)
		}
		for i, c := range l {
			both(append(slices.Clone(l), c), api.ErrChoice)
			both(append([]api.Choice{{Name: c.Name, Value: c.Value + 1}}, l...), api.ErrChoice)
			both(append(slices.Clone(l[:i]), c, c), api.ErrChoice)
		}
	}
	for _, name := range strangers() {
		both(ch(name, 1), api.ErrChoice)
		both(ch("tsize", 1, name, 1), api.ErrChoice)
		both(ch(name, 1, "tsize", 1), api.ErrChoice)
	}
	for _, name := range []string{"BLKSIZE", "Blksize", "blksizE", "WINDOWSIZE", "windowSize", "TSIZE", "Tsize", "tsize\x00", "\x00tsize", "blksize\x008"} {
		both(ch(name, 8), api.ErrChoice)
	}
}

// TestEncodeValues: P17.1: 0 to 2147483647, in decimal digits without a 0 ahead, whichever the name.
func TestEncodeValues(t *testing.T) {
	for _, name := range known() {
		for n, digits := range map[int]string{0: "0", 1: "1", 7: "7", 9: "9", 10: "10", 100: "100", 65536: "65536", 2147483646: "2147483646", 2147483647: "2147483647"} {
			b, e := tftp.Encode(api.Tftp{Op: 6, Choices: ch(name, n)})
			if want := "\x00\x06" + name + "\x00" + digits + "\x00"; string(b) != want || e != api.OK {
				t.Errorf("Encode of %s %d: %q, %d, want %q", name, n, b, e, want)
			}
		}
		for _, n := range append(strange(), -1, math.MinInt32, 2147483648, 2147483649, 4294967295) {
			checkUnlaid(t, api.Tftp{Op: 6, Choices: ch(name, n)}, api.ErrChoice)
			checkUnlaid(t, read("a", "octet", ch(name, n)...), api.ErrChoice)
		}
	}
	checkUnlaid(t, read("a", "octet", ch("tsize", 1, "blksize", -1)...), api.ErrChoice)
}

// TestEncodeNumbers: P17.1: Block and Code of 0 to 65535, in two bytes, the highest first.
func TestEncodeNumbers(t *testing.T) {
	for n := range 65536 {
		high, low := byte(n/256), byte(n%256)
		for _, x := range []struct {
			p    api.Tftp
			want string
		}{
			{api.Tftp{Op: 3, Block: n}, string([]byte{0, 3, high, low})},
			{api.Tftp{Op: 4, Block: n}, string([]byte{0, 4, high, low})},
			{api.Tftp{Op: 5, Code: n}, string([]byte{0, 5, high, low, 0})},
		} {
			if b, e := tftp.Encode(x.p); string(b) != x.want || e != api.OK {
				t.Fatalf("Encode(%v): % x, %d", x.p, b, e)
			}
		}
	}
	for _, n := range append(strange(), -1, 65536, 65537, 131071) {
		checkUnlaid(t, api.Tftp{Op: 3, Block: n}, api.ErrArg)
		checkUnlaid(t, api.Tftp{Op: 4, Block: n}, api.ErrArg)
		checkUnlaid(t, api.Tftp{Op: 5, Code: n}, api.ErrArg)
		checkLaid(t, api.Tftp{Op: 5, Block: n})
		checkLaid(t, api.Tftp{Op: 4, Code: n})
	}
}

// TestEncodeData: P17.1: up to 65464 bytes, of any kind.
func TestEncodeData(t *testing.T) {
	r := draws()
	for _, n := range []int{0, 1, 2, 7, 8, 511, 512, 513, 1428, 1429, 65463, 65464} {
		checkLaid(t, api.Tftp{Op: 3, Block: 1, Data: someBytes(r, n)})
		checkLaid(t, api.Tftp{Op: 3, Block: 1, Data: make([]byte, n)})
	}
	for _, n := range []int{65465, 65466, 65535, 65536, 131072, 1 << 20} {
		checkUnlaid(t, api.Tftp{Op: 3, Block: 1, Data: make([]byte, n)}, api.ErrLong)
	}
	none, _ := tftp.Encode(api.Tftp{Op: 3, Block: 1})
	empty, _ := tftp.Encode(api.Tftp{Op: 3, Block: 1, Data: []byte{}})
	if string(none) != string(empty) || string(none) != "\x00\x03\x00\x01" {
		t.Errorf("no bytes: % x, and % x", none, empty)
	}
}

// TestEncodeText: P17.1: up to 255 bytes, none of them 0.
func TestEncodeText(t *testing.T) {
	r := draws()
	for n := range 400 {
		for _, text := range []string{strings.Repeat("t", n), strings.Repeat("\xff", n), someText(r, n)} {
			if n <= 255 {
				checkLaid(t, api.Tftp{Op: 5, Code: 2, Text: text})
			} else {
				checkUnlaid(t, api.Tftp{Op: 5, Code: 2, Text: text}, api.ErrLong)
			}
		}
	}
	for _, n := range []int{1, 2, 3, 254, 255, 256, 257, 600} {
		for _, at := range []int{0, n / 2, n - 1} {
			checkUnlaid(t, api.Tftp{Op: 5, Text: strings.Repeat("a", at) + "\x00" + strings.Repeat("b", n-at-1)}, api.ErrName)
		}
	}
	checkUnlaid(t, api.Tftp{Op: 5, Text: strings.Repeat("t", 65536)}, api.ErrLong)
}

// TestEncodeUnused: fields that the Op doesn't use are not looked at, whatever they have.
func TestEncodeUnused(t *testing.T) {
	for _, p := range packets() {
		q := filled(p)
		if b, e := tftp.Encode(q); e != api.OK || string(b) != string(plainForm(p)) {
			t.Errorf("Encode of Op %d with all fields filled: %.99q, %d", p.Op, b, e)
		}
	}
	q := api.Tftp{Op: 4, Block: 7, Data: make([]byte, 65465)}
	checkLaid(t, q)
	q.Data = make([]byte, 1<<20)
	checkLaid(t, q)
	for _, p := range []api.Tftp{read("", "octet"), read("a", "mail"), read("a", "octet", ch("tsize", -1)...)} {
		checkUnlaid(t, filled(p), plainUnlaid(p))
	}
	checkUnlaid(t, filled(api.Tftp{Op: 3, Block: -1}), api.ErrArg)
	checkUnlaid(t, filled(api.Tftp{Op: 3, Data: make([]byte, 65465)}), api.ErrLong)
	checkUnlaid(t, filled(api.Tftp{Op: 4, Block: 65536}), api.ErrArg)
	checkUnlaid(t, filled(api.Tftp{Op: 5, Text: strings.Repeat("t", 256)}), api.ErrLong)
	checkUnlaid(t, filled(api.Tftp{Op: 6, Choices: ch("foo", 1)}), api.ErrChoice)
}

// TestEncodeErrorOrder: P17.1 with R5: of all faults the first in the promise's order is told, whichever stand together.
func TestEncodeErrorOrder(t *testing.T) {
	files := []string{"a", "", "a\x00", strings.Repeat("f", 65)}
	modes := []string{"octet", "", "OCTET", "mail"}
	lists := [][]api.Choice{nil, ch("tsize", 1), ch("foo", 1), ch("tsize", -1), ch("tsize", 1, "tsize", 1)}
	for _, file := range files {
		for _, mode := range modes {
			for _, l := range lists {
				checkEncode(t, read(file, mode, l...))
			}
		}
	}
	checkUnlaid(t, read("", "octet", ch("foo", 1)...), api.ErrName)
	checkUnlaid(t, read("a", "mail", ch("foo", 1)...), api.ErrName)
	for _, n := range []int{-1, 0, 65535, 65536} {
		for _, size := range []int{0, 1, 65464, 65465} {
			checkEncode(t, api.Tftp{Op: 3, Block: n, Data: make([]byte, size)})
		}
		for _, text := range []string{"", "\x00", strings.Repeat("t", 255), strings.Repeat("t", 256), strings.Repeat("t", 255) + "\x00", strings.Repeat("t", 256) + "\x00"} {
			checkEncode(t, api.Tftp{Op: 5, Code: n, Text: text})
		}
	}
	checkUnlaid(t, api.Tftp{Op: 3, Block: -1, Data: make([]byte, 65465)}, api.ErrArg)
	checkUnlaid(t, api.Tftp{Op: 5, Code: 65536, Text: "\x00"}, api.ErrArg)
	checkUnlaid(t, api.Tftp{Op: 5, Code: -1, Text: strings.Repeat("t", 256)}, api.ErrArg)
	checkUnlaid(t, api.Tftp{Op: 5, Text: "\x00" + strings.Repeat("t", 256)}, api.ErrName)
}

// TestEncodeAny: P17.1, packets of all kinds, with a fault now and then.
func TestEncodeAny(t *testing.T) {
	r := draws()
	many := map[api.Errno]int{}
	for range 30000 {
		p := somePacket(r)
		if r.IntN(2) == 0 {
			p = filled(p)
		}
		switch r.IntN(16) {
		case 0:
			p.Op = r.IntN(9) - 1
		case 1:
			p.File = string(someBytes(r, r.IntN(80)))
		case 2:
			p.Mode = pick(r, "", "octet", "Octet", "mail")
		case 3:
			p.Choices = append(p.Choices, pick(r, ch("foo", 1, "TSIZE", 1, "tsize", 5, "blksize", 7, "windowsize", -1, "blksize", 2147483648)...))
		case 4:
			p.Block, p.Code = r.IntN(200000)-60000, r.IntN(200000)-60000
		case 5:
			p.Text = string(someBytes(r, r.IntN(400)))
		case 6:
			p.Text = someText(r, r.IntN(500))
		case 7:
			if r.IntN(8) == 0 {
				p.Data = make([]byte, 65464+r.IntN(3))
			}
		}
		many[checkEncode(t, p)]++
	}
	for _, e := range []api.Errno{api.OK, api.ErrArg, api.ErrLong, api.ErrOp, api.ErrName, api.ErrChoice} {
		if many[e] < 50 {
			t.Errorf("how often each error came: %v", many)
		}
	}
}
