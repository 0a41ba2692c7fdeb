package bootp_test

import (
	"bytes"
	"encoding/hex"
	"math"
	"slices"
	"strings"
	"testing"

	"slipway/api"
	"slipway/bootp"
	"slipway/option"
)

func checkPiece(t *testing.T, b []byte, from, to int, want string) {
	t.Helper()
	if got := hex.EncodeToString(b[from:to]); got != strings.ToLower(strings.ReplaceAll(want, " ", "")) {
		t.Errorf("the bytes from %d to %d: %s, want %s", from, to-1, got, want)
	}
}

// TestEncodeExamples: P16.1, the chapter's table.
func TestEncodeExamples(t *testing.T) {
	b, e := bootp.Encode(bootp.Ask(api.Discover, station(), 1234, 5, 0))
	if e != api.OK || len(b) != 300 {
		t.Fatalf("Encode: %d bytes, %d", len(b), e)
	}
	checkPiece(t, b, 0, 12, "01 01 06 00 00 00 04 D2 00 05 80 00")
	checkPiece(t, b, 28, 35, "02 00 00 00 00 07 00")
	checkPiece(t, b, 236, 244, "63 82 53 63 35 01 01 FF")
	for _, x := range []struct {
		turn func(m *api.Bootp)
		err  api.Errno
	}{
		{func(m *api.Bootp) { m.Op = 3 }, api.ErrBootp},
		{func(m *api.Bootp) { m.Hops = 256 }, api.ErrBootp},
		{func(m *api.Bootp) { m.File = "a\x00" }, api.ErrBootp},
		{func(m *api.Bootp) { m.Sname = strings.Repeat("a", 64) }, api.ErrLong},
		{func(m *api.Bootp) { m.Options = append(m.Options, opt(52, 1)) }, api.ErrBoth},
	} {
		m := chapterMessage()
		x.turn(&m)
		checkUnlaid(t, m, x.err)
	}
}

// TestEncodePlaces: P16.1, the bytes' table: each number stands at its place, the highest byte first, and all else is 0.
func TestEncodePlaces(t *testing.T) {
	b, e := bootp.Encode(fullMessage())
	if e != api.OK || len(b) != 300 {
		t.Fatalf("Encode: %d bytes, %d", len(b), e)
	}
	checkPiece(t, b, 0, 28, "02 01 06 11 21222324 3132 8000 41424344 51525354 61626364 71727374")
	checkPiece(t, b, 28, 44, "818283848586 00000000000000000000")
	checkPiece(t, b, 44, 108, "686f7374"+strings.Repeat("00", 60))
	checkPiece(t, b, 108, 236, "626f6f742f696d616765"+strings.Repeat("00", 118))
	checkPiece(t, b, 236, 240, "63825363")
	checkPiece(t, b, 240, 300, "350102 330400000e10 ff"+strings.Repeat("00", 50))
	least, e := bootp.Encode(api.Bootp{Op: 1})
	if e != api.OK || len(least) != 300 {
		t.Fatalf("Encode of nothing but an Op: %d bytes, %d", len(least), e)
	}
	checkPiece(t, least, 0, 300, "010106"+strings.Repeat("00", 233)+"63825363ff"+strings.Repeat("00", 59))
}

// TestEncodeAlone: P16.1: each number alone, so that none stands where another does too.
func TestEncodeAlone(t *testing.T) {
	for at, turn := range map[int]func(m *api.Bootp, n uint32){
		4:  func(m *api.Bootp, n uint32) { m.Xid = n },
		12: func(m *api.Bootp, n uint32) { m.Ci = n },
		16: func(m *api.Bootp, n uint32) { m.Yi = n },
		20: func(m *api.Bootp, n uint32) { m.Si = n },
		24: func(m *api.Bootp, n uint32) { m.Gi = n },
	} {
		for _, n := range []uint32{0, 1, 255, 256, 0x01020304, 0x7fffffff, 0x80000000, math.MaxUint32} {
			m := api.Bootp{Op: 2}
			turn(&m, n)
			b, e := bootp.Encode(m)
			want := put(plainForm(api.Bootp{Op: 2}), at, four(n)...)
			if e != api.OK || !bytes.Equal(b, want) {
				t.Errorf("the number %x at %d: % x, %d", n, at, b, e)
			}
		}
	}
	for i := range 6 {
		m := api.Bootp{Op: 1}
		m.Mac[i] = 0xa5
		if b, e := bootp.Encode(m); e != api.OK || !bytes.Equal(b, put(plainForm(api.Bootp{Op: 1}), 28+i, 0xa5)) {
			t.Errorf("the station's byte %d: % x, %d", i, b, e)
		}
	}
}

// TestEncodeOps: P16.1: 1 and 2, and nothing else.
func TestEncodeOps(t *testing.T) {
	m := fullMessage()
	for _, op := range append(strange(), -1, 0, 1, 2, 3, 4, 255, 256, 257, 258) {
		m.Op = op
		if op == 1 || op == 2 {
			checkLaid(t, m)
		} else {
			checkUnlaid(t, m, api.ErrBootp)
		}
	}
}

// TestEncodeHops: P16.1: 0 to 255.
func TestEncodeHops(t *testing.T) {
	m := fullMessage()
	for hops := range 256 {
		m.Hops = hops
		checkLaid(t, m)
	}
	for _, hops := range append(strange(), -1, 256, 257, 511, 512, 65535) {
		m.Hops = hops
		checkUnlaid(t, m, api.ErrBootp)
	}
}

// TestEncodeSecs: P16.1: 0 to 65535.
func TestEncodeSecs(t *testing.T) {
	m := fullMessage()
	for secs := range 65536 {
		m.Secs = secs
		if b, e := bootp.Encode(m); e != api.OK || int(b[8])*256+int(b[9]) != secs {
			t.Fatalf("Secs of %d: %d", secs, e)
		}
	}
	for _, secs := range []int{0, 1, 255, 256, 65534, 65535} {
		m.Secs = secs
		checkLaid(t, m)
	}
	for _, secs := range append(strange(), -1, 65536, 131071) {
		m.Secs = secs
		checkUnlaid(t, m, api.ErrBootp)
	}
}

// TestEncodeAll: P16.1: the highest bit alone, or none.
func TestEncodeAll(t *testing.T) {
	for _, all := range []bool{true, false} {
		m := fullMessage()
		m.All = all
		checkLaid(t, m)
	}
	m := api.Bootp{Op: 1}
	b, _ := bootp.Encode(m)
	m.All = true
	if c, _ := bootp.Encode(m); !bytes.Equal(c, put(b, 10, 0x80)) || b[10] != 0 {
		t.Errorf("All: % x, and % x without", c[:12], b[:12])
	}
}

// TestEncodeTexts: P16.1: Sname of 0 to 63 bytes, File of 0 to 127, of any bytes but 0; longer ones are ErrLong.
func TestEncodeTexts(t *testing.T) {
	r := draws()
	for n := range 200 {
		for _, text := range []string{strings.Repeat("a", n), someText(r, n), strings.Repeat("\xff", n)} {
			m := fullMessage()
			m.Sname = text
			if n <= 63 {
				checkLaid(t, m)
			} else {
				checkUnlaid(t, m, api.ErrLong)
			}
			m = fullMessage()
			m.File = text
			if n <= 127 {
				checkLaid(t, m)
			} else {
				checkUnlaid(t, m, api.ErrLong)
			}
		}
	}
	for _, n := range []int{255, 256, 257, 319, 65536, 65536 + 10} {
		checkUnlaid(t, api.Bootp{Op: 1, Sname: strings.Repeat("s", n)}, api.ErrLong)
		checkUnlaid(t, api.Bootp{Op: 1, File: strings.Repeat("f", n)}, api.ErrLong)
	}
	checkLaid(t, api.Bootp{Op: 1, Sname: strings.Repeat("s", 63), File: strings.Repeat("f", 127)})
}

// TestEncodeZeros: P16.1: a byte 0 in a text is ErrBootp, wherever it stands, and also where the text is too long.
func TestEncodeZeros(t *testing.T) {
	for _, n := range []int{1, 2, 3, 10, 62, 63, 64, 65, 126, 127, 128, 129, 300} {
		for at := range n {
			text := strings.Repeat("a", at) + "\x00" + strings.Repeat("b", n-at-1)
			checkUnlaid(t, api.Bootp{Op: 1, Sname: text}, api.ErrBootp)
			checkUnlaid(t, api.Bootp{Op: 1, File: text}, api.ErrBootp)
		}
		checkUnlaid(t, api.Bootp{Op: 1, Sname: strings.Repeat("\x00", n)}, api.ErrBootp)
		checkUnlaid(t, api.Bootp{Op: 1, File: strings.Repeat("\x00", n)}, api.ErrBootp)
	}
}

// TestEncodeOverload: P16.1: the option 52 is ErrBoth, wherever it stands, whatever it has, also where Pack would refuse the options.
func TestEncodeOverload(t *testing.T) {
	others := row(60, 5, 3)
	for _, over := range list(opt(52), opt(52, 0), opt(52, 1), opt(52, 2), opt(52, 3), opt(52, 4), opt(52, 1, 2), opt(52, someData(2000)...)) {
		for at := range len(others) + 1 {
			m := fullMessage()
			m.Options = slices.Insert(slices.Clone(others), at, over)
			checkUnlaid(t, m, api.ErrBoth)
		}
		checkUnlaid(t, api.Bootp{Op: 1, Options: list(over)}, api.ErrBoth)
		checkUnlaid(t, api.Bootp{Op: 1, Options: list(over, over)}, api.ErrBoth)
		for _, amiss := range [][]api.Option{list(opt(0)), list(opt(255, 1)), list(opt(7), opt(7)), row(60, 64, 1), row(60, 100, 1), list(opt(9, make([]byte, 1300)...))} {
			checkUnlaid(t, api.Bootp{Op: 1, Options: append(slices.Clone(amiss), over)}, api.ErrBoth)
			checkUnlaid(t, api.Bootp{Op: 1, Options: append(list(over), amiss...)}, api.ErrBoth)
		}
	}
	for _, code := range []int{51, 53, 52 + 256, 52 - 256, 1<<32 + 52, -52} {
		checkEncode(t, api.Bootp{Op: 1, Options: list(opt(code, 1))})
	}
	checkUnlaid(t, api.Bootp{Op: 1, Options: list(opt(52+256, 1))}, api.ErrOption)
}

// TestEncodeOptionErrors: P16.1: the error of Pack, whichever it is.
func TestEncodeOptionErrors(t *testing.T) {
	for _, code := range append(strange(), -1, 0, 255, 256, 309) {
		checkUnlaid(t, api.Bootp{Op: 1, Options: list(opt(code, 1))}, api.ErrOption)
		checkUnlaid(t, api.Bootp{Op: 1, Options: list(opt(53, 1), opt(code), opt(54, 2))}, api.ErrOption)
	}
	for code := 1; code <= 254; code++ {
		if code != 52 {
			checkLaid(t, api.Bootp{Op: 1, Options: list(opt(code, 7, 8))})
			checkUnlaid(t, api.Bootp{Op: 1, Options: list(opt(code, 7), opt(code, 7))}, api.ErrOption)
		}
	}
	checkLaid(t, api.Bootp{Op: 1, Options: row(60, 64, 1)})
	checkLaid(t, api.Bootp{Op: 1, Options: row(60, 64, 0)})
	checkUnlaid(t, api.Bootp{Op: 1, Options: row(60, 65, 1)}, api.ErrLong)
	checkUnlaid(t, api.Bootp{Op: 1, Options: row(60, 65, 0)}, api.ErrLong)
	checkUnlaid(t, api.Bootp{Op: 1, Options: append(row(60, 65, 1), opt(60))}, api.ErrOption)
	checkUnlaid(t, api.Bootp{Op: 1, Options: list(opt(7, make([]byte, 1300)...), opt(7))}, api.ErrOption)
}

// TestEncodeOptionRoom: P16.1: options of just 1232 bytes are laid, one more is ErrLong: 240 and 1232 are 1472 in all.
func TestEncodeOptionRoom(t *testing.T) {
	for n := 1100; n < 1300; n++ {
		for _, l := range [][]api.Option{list(opt(7, someData(n)...)), list(opt(53, 1), opt(7, someData(n)...), opt(54)), append(row(60, 30, 2), opt(7, someData(n-110)...))} {
			m := fullMessage()
			m.Options = l
			bytesOf := len(plainOptions(l))
			if bytesOf > 1232 {
				checkUnlaid(t, m, api.ErrLong)
				continue
			}
			checkLaid(t, m)
			if b, _ := bootp.Encode(m); len(b) != 240+bytesOf || len(b) > 1472 {
				t.Errorf("options of %d bytes: %d bytes", bytesOf, len(b))
			}
		}
	}
	full := api.Bootp{Op: 1, Options: list(opt(7, make([]byte, 1221)...))}
	if b, e := bootp.Encode(full); e != api.OK || len(b) != 1472 || b[1471] != 255 {
		t.Errorf("options of 1232 bytes: %d bytes, %d", len(b), e)
	}
	full.Options = list(opt(7, make([]byte, 1222)...))
	checkUnlaid(t, full, api.ErrLong)
	for _, n := range []int{5000, 65536, 1 << 20} {
		checkUnlaid(t, api.Bootp{Op: 1, Options: list(opt(7, make([]byte, n)...))}, api.ErrLong)
	}
}

// TestEncodeFill: P16.1: what has fewer than 300 bytes is filled up with 0, what has as many or more isn't.
func TestEncodeFill(t *testing.T) {
	for n := range 200 {
		m := chapterMessage()
		m.Options = list(opt(7, bytes.Repeat([]byte{9}, n)...))
		b, e := bootp.Encode(m)
		want := 240 + 2 + n + 1
		if e != api.OK || len(b) != max(want, 300) || b[want-1] != 255 {
			t.Fatalf("a message of %d bytes: %d bytes, %d", want, len(b), e)
		}
		if !bytes.Equal(b[want:], make([]byte, len(b)-want)) {
			t.Errorf("a message of %d bytes has other bytes than 0 behind it: % x", want, b[want:])
		}
		checkLaid(t, m)
	}
	for options, want := range map[int]int{59: 300, 60: 300, 61: 301} {
		b, _ := option.Pack(list(opt(7, make([]byte, options-3)...)), 99)
		laid, _ := bootp.Encode(api.Bootp{Op: 1, Options: list(opt(7, make([]byte, options-3)...))})
		if len(b) != options || len(laid) != want {
			t.Errorf("options of %d bytes: %d bytes in all, want %d", len(b), len(laid), want)
		}
	}
}

// faultyMessage has faults by bits; plainUnlaid says which is told first.
func faultyMessage(set int) api.Bootp {
	m := fullMessage()
	turns := []func(){
		func() { m.Op = 0 },
		func() { m.Hops = -1 },
		func() { m.Secs = 65536 },
		func() { m.Sname += "\x00" },
		func() { m.File = "\x00" + m.File },
		func() { m.Sname += strings.Repeat("s", 64) },
		func() { m.File += strings.Repeat("f", 128) },
		func() { m.Options = append(m.Options, opt(52, 3)) },
		func() { m.Options = append(m.Options, opt(255, 3)) },
		func() { m.Options = append(m.Options, opt(67, make([]byte, 1232)...)) },
	}
	for i, turn := range turns {
		if set&(1<<i) != 0 {
			turn()
		}
	}
	return m
}

// TestEncodeErrorOrder: P16.1 with R5: of all faults the first in the promise's order is told, whichever of them stand together.
func TestEncodeErrorOrder(t *testing.T) {
	for set := range 1 << 10 {
		want := api.OK
		switch {
		case set&0x1f != 0:
			want = api.ErrBootp
		case set&0x60 != 0:
			want = api.ErrLong
		case set&0x80 != 0:
			want = api.ErrBoth
		case set&0x100 != 0:
			want = api.ErrOption
		case set&0x200 != 0:
			want = api.ErrLong
		}
		if want == api.OK {
			checkLaid(t, faultyMessage(set))
		} else {
			checkUnlaid(t, faultyMessage(set), want)
		}
	}
}

// TestEncodeNil: R3: no options, an empty list of them, and Data that is nil or empty are laid alike.
func TestEncodeNil(t *testing.T) {
	none, _ := bootp.Encode(api.Bootp{Op: 1})
	empty, _ := bootp.Encode(api.Bootp{Op: 1, Options: []api.Option{}})
	if !bytes.Equal(none, empty) || len(none) != 300 {
		t.Errorf("no options: % x, and % x", none, empty)
	}
	none, _ = bootp.Encode(api.Bootp{Op: 1, Options: list(api.Option{Code: 7})})
	empty, _ = bootp.Encode(api.Bootp{Op: 1, Options: list(api.Option{Code: 7, Data: []byte{}})})
	if !bytes.Equal(none, empty) || len(none) != 300 {
		t.Errorf("no bytes: % x, and % x", none, empty)
	}
}

// TestEncodeAny: P16.1, messages of all kinds, with a fault now and then.
func TestEncodeAny(t *testing.T) {
	r := draws()
	many := map[api.Errno]int{}
	for range 20000 {
		m := someMessage(r)
		switch r.IntN(12) {
		case 0:
			m.Op = r.IntN(5) - 1
		case 1:
			m.Hops = r.IntN(600) - 200
		case 2:
			m.Secs = r.IntN(200000) - 50000
		case 3:
			m.Sname = string(someBytes(r, r.IntN(80)))
		case 4:
			m.File = string(someBytes(r, r.IntN(160)))
		case 5:
			m.Options = append(m.Options, opt(r.IntN(260)-2, someBytes(r, 3)...))
		case 6:
			m.Options = append(m.Options, opt(52, 1))
		case 7:
			m.Options = someOptions(r, r.IntN(150))
		case 8:
			m.Options = list(opt(1+r.IntN(51), someBytes(r, r.IntN(2000))...))
		case 9:
			m.Sname = someText(r, r.IntN(130))
		}
		many[checkEncode(t, m)]++
	}
	for _, e := range []api.Errno{api.OK, api.ErrBootp, api.ErrLong, api.ErrBoth, api.ErrOption} {
		if many[e] < 100 {
			t.Errorf("how often each error came: %v", many)
		}
	}
}
