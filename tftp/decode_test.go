package tftp_test

import (
	"math"
	"slices"
	"strconv"
	"strings"
	"testing"

	"slipway/api"
)

// TestDecodeExamples: P17.2, the chapter's table.
func TestDecodeExamples(t *testing.T) {
	checkTaken(t, wire(1, "a.OcTeT.foo.x.BLKSIZE.8."), api.Tftp{Op: 1, File: "a", Mode: "octet", Choices: ch("blksize", 8)})
	checkRefused(t, nil, api.ErrShort)
	checkRefused(t, []byte{0, 2}, api.ErrOp)
	checkRefused(t, []byte{0, 7, 0}, api.ErrOp)
	checkRefused(t, []byte{0, 4, 0}, api.ErrShort)
	checkRefused(t, wire(1, "a.octet"), api.ErrShort)
	checkRefused(t, wire(1, ".octet."), api.ErrName)
	checkRefused(t, wire(1, "a.mail."), api.ErrName)
	checkRefused(t, wire(6, "blksize.08."), api.ErrChoice)
	checkRefused(t, wire(6, "tsize.1.TSIZE.1."), api.ErrChoice)
	checkRefused(t, wire(6, "tsize.2147483648."), api.ErrChoice)
}

// TestDecodeOps: P17.2: no two bytes are ErrShort, whatever there is; each other number than the table's ErrOp, whatever stands behind.
func TestDecodeOps(t *testing.T) {
	checkRefused(t, []byte{}, api.ErrShort)
	for x := range 256 {
		checkRefused(t, []byte{byte(x)}, api.ErrShort)
	}
	for n := range 65536 {
		b := []byte{byte(n / 256), byte(n % 256)}
		switch n {
		case 1, 3, 4, 5:
			checkRefused(t, b, api.ErrShort)
		case 6:
			checkTaken(t, b, api.Tftp{Op: 6})
		default:
			checkRefused(t, b, api.ErrOp)
			checkRefused(t, append(b, points("ab.octet.")...), api.ErrOp)
		}
	}
}

// TestDecodeBeginnings: P17.2: of each form each beginning: it is ErrShort, but where it is a form too.
func TestDecodeBeginnings(t *testing.T) {
	forms := [][]byte{wire(1, "ab.OCTET.tsize.10.foo.x.BlkSize.8."), wire(6, "tsize.10.foo..blksize.8."), {0, 3, 1, 2, 9, 0, 8}, {0, 4, 1, 2}, wire(5, "xyno."), wire(1, "a.octet.")}
	whole := map[string]bool{}
	for _, form := range forms {
		for n := range len(form) + 1 {
			if checkDecode(t, form[:n:n]) == api.OK {
				whole[string(form[:n])] = true
			}
		}
	}
	for _, s := range []string{"\x00\x01" + points("ab.OCTET."), "\x00\x01" + points("ab.OCTET.tsize.10."), "\x00\x01" + points("ab.OCTET.tsize.10.foo.x."), string(forms[0]), "\x00\x06", "\x00\x06" + points("tsize.10."), "\x00\x06" + points("tsize.10.foo.."), string(forms[1]), "\x00\x03\x01\x02", "\x00\x03\x01\x02\x09", "\x00\x03\x01\x02\x09\x00", string(forms[2]), string(forms[3]), string(forms[4]), string(forms[5])} {
		if !whole[s] {
			t.Errorf("%q was not taken", s)
		}
		delete(whole, s)
	}
	for s := range whole {
		t.Errorf("%q was taken", s)
	}
	for _, form := range forms {
		for n := range min(len(form), 4) {
			if form[1] != 6 {
				checkRefused(t, form[:n:n], api.ErrShort)
			}
		}
	}
}

// TestDecodeNumbers: P17.2: Block and Code are all numbers of two bytes, the highest first.
func TestDecodeNumbers(t *testing.T) {
	for n := range 65536 {
		high, low := byte(n/256), byte(n%256)
		checkTaken(t, []byte{0, 3, high, low}, api.Tftp{Op: 3, Block: n})
		checkTaken(t, []byte{0, 4, high, low}, api.Tftp{Op: 4, Block: n})
		checkTaken(t, []byte{0, 5, high, low, 0}, api.Tftp{Op: 5, Code: n})
	}
	for _, op := range []byte{3, 4, 5} {
		checkRefused(t, []byte{0, op}, api.ErrShort)
		checkRefused(t, []byte{0, op, 0}, api.ErrShort)
		checkRefused(t, []byte{0, op, 255}, api.ErrShort)
	}
}

// TestDecodeBehind: P17.2: what stands behind an Ack's Block and behind an Error's Text is not looked at.
func TestDecodeBehind(t *testing.T) {
	for _, x := range [][]byte{{}, {0}, {0, 0}, {255}, []byte("rest"), wire(7, "blksize.x"), make([]byte, 65465), make([]byte, 1<<20)} {
		checkTaken(t, append([]byte{0, 4, 1, 2}, x...), api.Tftp{Op: 4, Block: 258})
		checkTaken(t, append([]byte{0, 5, 0, 7, 'n', 'o', 0}, x...), api.Tftp{Op: 5, Code: 7, Text: "no"})
		checkTaken(t, append([]byte{0, 5, 0, 7, 0}, x...), api.Tftp{Op: 5, Code: 7})
	}
}

// TestDecodeData: P17.2: up to 65464 bytes, of any kind, to the end.
func TestDecodeData(t *testing.T) {
	r := draws()
	for _, n := range []int{0, 1, 2, 511, 512, 513, 1428, 65463, 65464} {
		for _, data := range [][]byte{someBytes(r, n), make([]byte, n)} {
			checkTaken(t, append([]byte{0, 3, 1, 2}, data...), api.Tftp{Op: 3, Block: 258, Data: data})
		}
	}
	for _, n := range []int{65465, 65466, 65536, 131072, 1 << 20} {
		checkRefused(t, append([]byte{0, 3, 1, 2}, make([]byte, n)...), api.ErrLong)
	}
}

// TestDecodeText: P17.2: up to 255 bytes, of any kind but 0; no byte 0 behind it is told ahead of too many bytes.
func TestDecodeText(t *testing.T) {
	r := draws()
	for n := range 400 {
		for _, text := range []string{strings.Repeat("t", n), strings.Repeat("\xff", n), someText(r, n)} {
			b := append([]byte{0, 5, 0, 1}, text...)
			checkRefused(t, b, api.ErrShort)
			b = append(b, 0)
			if n <= 255 {
				checkTaken(t, b, api.Tftp{Op: 5, Code: 1, Text: text})
			} else {
				checkRefused(t, b, api.ErrLong)
			}
		}
	}
	for _, n := range []int{65535, 65536, 65537, 65536 + 10} {
		b := append([]byte{0, 5, 0, 1}, strings.Repeat("t", n)...)
		checkRefused(t, b, api.ErrShort)
		checkRefused(t, append(b, 0), api.ErrLong)
	}
}

// TestDecodeFile: P17.2: 1 to 64 bytes of any kind but 0; it is looked at when its byte 0 was found, and ahead of what comes behind.
func TestDecodeFile(t *testing.T) {
	r := draws()
	for n := range 200 {
		for _, file := range []string{strings.Repeat("f", n), strings.Repeat("\xff", n), someText(r, n), strings.Repeat("F", n)} {
			checkRefused(t, append([]byte{0, 1}, file...), api.ErrShort)
			whole := append([]byte{0, 1}, file+"\x00octet\x00"...)
			if n >= 1 && n <= 64 {
				checkTaken(t, whole, api.Tftp{Op: 1, File: file, Mode: "octet"})
				checkRefused(t, whole[:2+n+1], api.ErrShort)
				continue
			}
			for end := 2 + n + 1; end <= len(whole); end++ {
				checkRefused(t, whole[:end:end], api.ErrName)
			}
			checkRefused(t, append(whole, "tsize\x00x\x00"...), api.ErrName)
		}
	}
}

// TestDecodeMode: P17.2: `octet` in letters of either size, told in small ones; nothing else.
func TestDecodeMode(t *testing.T) {
	for set := range 1 << 5 {
		mode := []byte("octet")
		for i := range mode {
			if set&(1<<i) != 0 {
				mode[i] -= 32
			}
		}
		checkTaken(t, wire(1, "a."+string(mode)+"."), api.Tftp{Op: 1, File: "a", Mode: "octet"})
		checkTaken(t, wire(1, "a."+string(mode)+".tsize.0."), api.Tftp{Op: 1, File: "a", Mode: "octet", Choices: ch("tsize", 0)})
	}
	for _, mode := range []string{"", "o", "octe", "octets", " octet", "octet ", "mail", "MAIL", "netascii", "0ctet", "octe\u0165", "\xffoctet", "octet\xff", "oct\xe5t", "\u0585ctet", "blksize"} {
		checkRefused(t, wire(1, "a."+mode+"."), api.ErrName)
		checkRefused(t, wire(1, "a."+mode), api.ErrShort)
		checkRefused(t, wire(1, "a."+mode+".tsize.x."), api.ErrName)
		checkRefused(t, wire(1, "a."+mode+".tsize"), api.ErrName)
	}
	for i := range 5 {
		for x := 1; x < 256; x++ {
			mode := []byte("octet")
			mode[i] = byte(x)
			checkDecode(t, wire(1, "a."+string(mode)+"."))
		}
	}
	checkRefused(t, []byte("\x00\x01a\x00oct.t\x00"), api.ErrName)
}

// TestDecodeNames: P17.2: the known names in letters of either size, told in small ones; each one of another byte is another name.
func TestDecodeNames(t *testing.T) {
	for _, name := range known() {
		for set := range 1 << len(name) {
			turned := []byte(name)
			for i := range turned {
				if set&(1<<i) != 0 {
					turned[i] -= 32
				}
			}
			checkTaken(t, wire(6, string(turned)+".77."), api.Tftp{Op: 6, Choices: ch(name, 77)})
		}
		for i := range len(name) {
			for x := range 256 {
				turned := []byte(name)
				turned[i] = byte(x)
				checkDecode(t, slices.Concat([]byte{0, 6}, turned, []byte("\x0077\x00")))
			}
			checkTaken(t, wire(6, name[:i]+".77."), api.Tftp{Op: 6})
			checkTaken(t, wire(6, name+name[:i+1]+".77."), api.Tftp{Op: 6})
		}
	}
	for _, name := range strangers() {
		checkTaken(t, wire(6, name+".77."), api.Tftp{Op: 6})
		checkTaken(t, wire(1, "a.octet."+name+".77.tsize.1."), api.Tftp{Op: 1, File: "a", Mode: "octet", Choices: ch("tsize", 1)})
	}
}

// TestDecodePassedOver: P17.2: a choice of another name is passed over, whatever its value, however often it comes; but its texts must be there.
func TestDecodePassedOver(t *testing.T) {
	for _, value := range []string{"", "0", "00", "x", "-1", "2147483648", strings.Repeat("9", 999), "blksize", "\xff"} {
		for _, name := range []string{"", "foo", "timeout", "blk", "tsize2"} {
			one := name + "." + value + "."
			checkTaken(t, wire(6, one), api.Tftp{Op: 6})
			checkTaken(t, wire(6, one+one+one), api.Tftp{Op: 6})
			checkTaken(t, wire(6, one+"tsize.5."+one+"BLKSIZE.9."+one), api.Tftp{Op: 6, Choices: ch("tsize", 5, "blksize", 9)})
			checkTaken(t, wire(1, "a.octet."+one+one), api.Tftp{Op: 1, File: "a", Mode: "octet"})
			checkRefused(t, wire(6, "tsize.5."+one[:len(one)-1]), api.ErrShort)
		}
	}
	checkRefused(t, wire(6, "foo"), api.ErrShort)
	checkRefused(t, wire(6, "foo."), api.ErrShort)
	checkRefused(t, wire(6, "."), api.ErrShort)
	checkTaken(t, wire(6, ".."), api.Tftp{Op: 6})
	checkRefused(t, wire(6, "..."), api.ErrShort)
	checkTaken(t, wire(6, strings.Repeat(".", 5000)), api.Tftp{Op: 6})
	checkTaken(t, wire(6, strings.Repeat("foo.1.", 5000)+"tsize.1."), api.Tftp{Op: 6, Choices: ch("tsize", 1)})
}

// TestDecodeValues: P17.2: the decimal digits of 0 to 2147483647, no 0 ahead of others.
func TestDecodeValues(t *testing.T) {
	for _, name := range known() {
		for _, n := range []int{0, 1, 7, 8, 9, 10, 11, 99, 100, 512, 1428, 65464, 65535, 65536, 1000000000, 2147483639, 2147483646, 2147483647} {
			digits := strconv.Itoa(n)
			checkTaken(t, wire(6, name+"."+digits+"."), api.Tftp{Op: 6, Choices: ch(name, n)})
			checkTaken(t, wire(1, "a.octet."+name+"."+digits+"."), api.Tftp{Op: 1, File: "a", Mode: "octet", Choices: ch(name, n)})
			checkRefused(t, wire(6, name+".0"+digits+"."), api.ErrChoice)
			checkRefused(t, wire(6, name+".00000000000"+digits+"."), api.ErrChoice)
			for _, x := range []string{"+", "-", " ", "0x", "_", "\xff", "\t"} {
				checkRefused(t, wire(6, name+"."+x+digits+"."), api.ErrChoice)
				checkRefused(t, wire(6, name+"."+digits+x+"."), api.ErrChoice)
			}
		}
		for _, digits := range []string{"", "x", "a", "-0", "+0", "00", "000", "0x10", "1_000", "1e3", "1,0", "2147483648", "2147483649", "2147483650", "3000000000", "4294967295", "4294967296", "4294967297", "9999999999", "10000000000", "21474836470", "9223372036854775807", "9223372036854775808", "18446744073709551615", "18446744073709551616", "18446744073709551617", "18446744073709551624", "340282366920938463463374607431768211457", strings.Repeat("9", 100), "1" + strings.Repeat("0", 70000), "\u0661", "１", "/", ":", "1/", "1:"} {
			checkRefused(t, wire(6, name+"."+digits+"."), api.ErrChoice)
			checkRefused(t, wire(1, "a.octet.foo.1."+name+"."+digits+".tsize"), api.ErrChoice)
		}
		checkRefused(t, []byte("\x00\x06"+name+"\x001.5\x00"), api.ErrChoice)
		for x := 1; x < 256; x++ {
			checkDecode(t, append([]byte("\x00\x06"+name+"\x00"), byte(x), 0))
			checkDecode(t, append([]byte("\x00\x06"+name+"\x001"), byte(x), '2', 0))
		}
	}
	for n := range 3000 {
		checkTaken(t, wire(6, "tsize."+strconv.Itoa(n)+"."), api.Tftp{Op: 6, Choices: ch("tsize", n)})
	}
	for n := math.MaxInt32 - 300; n < math.MaxInt32+300; n++ {
		checkDecode(t, wire(6, "tsize."+strconv.Itoa(n)+"."))
	}
}

// TestDecodeTwice: P17.2: a known name that comes twice is ErrChoice, in letters of either size, whatever its values.
func TestDecodeTwice(t *testing.T) {
	for _, name := range known() {
		great := strings.ToUpper(name)
		for _, x := range [][2]string{{name, name}, {name, great}, {great, name}, {great, great}} {
			checkRefused(t, wire(6, x[0]+".8."+x[1]+".8."), api.ErrChoice)
			checkRefused(t, wire(6, x[0]+".8."+x[1]+".9."), api.ErrChoice)
			checkRefused(t, wire(6, x[0]+".8.foo.1."+x[1]+".8."), api.ErrChoice)
			checkRefused(t, wire(1, "a.octet."+x[0]+".8."+x[1]+".8."), api.ErrChoice)
			checkRefused(t, wire(6, x[0]+".8."+x[1]+".8"), api.ErrShort)
			checkRefused(t, wire(6, x[0]+".8."+x[1]+".x."), api.ErrChoice)
		}
	}
	for _, order := range [][]string{{"blksize", "windowsize", "tsize"}, {"tsize", "windowsize", "blksize"}, {"windowsize", "blksize", "tsize"}} {
		s, want := "", []api.Choice(nil)
		for i, name := range order {
			s += name + "." + strconv.Itoa(i+8) + "."
			want = append(want, api.Choice{Name: name, Value: i + 8})
		}
		checkTaken(t, wire(6, s), api.Tftp{Op: 6, Choices: want})
		for _, name := range order {
			checkRefused(t, wire(6, s+name+".8."), api.ErrChoice)
		}
	}
}

// TestDecodeFirstFault: P17.2 with R5: the first fault from the first byte on is told, whatever comes behind.
func TestDecodeFirstFault(t *testing.T) {
	for s, want := range map[string]api.Errno{
		".mail":                     api.ErrName,
		".octet":                    api.ErrName,
		".octet.tsize.x.":           api.ErrName,
		"a.mail.tsize":              api.ErrName,
		"a.mail.tsize.x.":           api.ErrName,
		"a.mail":                    api.ErrShort,
		"a.octet.tsize.x":           api.ErrShort,
		"a.octet.tsize.x.foo":       api.ErrChoice,
		"a.octet.tsize.x.foo.":      api.ErrChoice,
		"a.octet.foo.x.tsize":       api.ErrShort,
		"a.octet.foo":               api.ErrShort,
		"a.octet.tsize.1.tsize":     api.ErrShort,
		"a.octet.tsize.1.tsize.":    api.ErrShort,
		"a.octet.tsize.1.tsize.1":   api.ErrShort,
		"a.octet.tsize.1.tsize.1.x": api.ErrChoice,
		"":                          api.ErrShort,
		".":                         api.ErrName,
		"..":                        api.ErrName,
		"a.":                        api.ErrShort,
		"a..":                       api.ErrName,
	} {
		checkRefused(t, wire(1, s), want)
	}
	checkRefused(t, wire(1, strings.Repeat("f", 65)), api.ErrShort)
	checkRefused(t, wire(1, strings.Repeat("f", 65)+"."), api.ErrName)
	checkRefused(t, wire(6, "tsize.x.blksize"), api.ErrChoice)
	checkRefused(t, wire(6, "tsize.x"), api.ErrShort)
}

// someForm is bytes near to a packet's: of pieces that choices are made of.
func someForm(r interface{ IntN(int) int }, op byte) []byte {
	pieces := []string{".", "..", "tsize.", "TSIZE.", "blksize.", "BlkSize.", "windowsize.", "foo.", "0.", "1.", "8.", "08.", "1428.", "2147483647.", "2147483648.", "x.", "octet.", "OCTET.", "a.", "tsize.1.", "blksize.8.", "windowsize.4.", "foo.1.", "\xff.", "tsize"}
	s := ""
	if op == 1 && r.IntN(5) > 0 {
		s = "file.oCtet."
	}
	for range r.IntN(7) {
		s += pieces[r.IntN(len(pieces))]
	}
	return wire(op, s)
}

// TestDecodeAny: P17.2: bytes of all kinds, near to packets' and far.
func TestDecodeAny(t *testing.T) {
	r := draws()
	many := map[api.Errno]int{}
	for range 40000 {
		b := someForm(r, pick(r, byte(1), 6))
		switch r.IntN(6) {
		case 0:
			b = someBytes(r, r.IntN(30))
		case 1:
			b = plainForm(somePacket(r))
			b[r.IntN(len(b))] = byte(r.Uint32())
		case 2:
			b = plainForm(somePacket(r))
			b = b[:r.IntN(len(b)+1)]
		}
		many[checkDecode(t, b)]++
	}
	for _, e := range []api.Errno{api.OK, api.ErrShort, api.ErrOp, api.ErrName, api.ErrChoice} {
		if many[e] < 300 {
			t.Errorf("how often each error came: %v", many)
		}
	}
}
