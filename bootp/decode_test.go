package bootp_test

import (
	"bytes"
	"slices"
	"strings"
	"testing"

	"slipway/api"
	"slipway/bootp"
)

// TestDecodeExamples: P16.2, the chapter's table.
func TestDecodeExamples(t *testing.T) {
	b, _ := bootp.Encode(chapterMessage())
	checkTaken(t, b, chapterMessage())
	if m, _ := bootp.Decode(b); bootp.Type(m) != 1 {
		t.Errorf("Type: %d", bootp.Type(m))
	}
	checkRefused(t, make([]byte, 239), api.ErrShort)
	checkRefused(t, put(b, 1, 6), api.ErrBootp)
	checkRefused(t, put(b, 236, 0), api.ErrMagic)
	checkRefused(t, put(b, 241, 255), api.ErrShort)
}

// TestDecodePlaces: P16.2: each number is told from its place, none taken for its neighbour.
func TestDecodePlaces(t *testing.T) {
	b := []byte{0x02, 0x01, 0x06, 0x11, 0x21, 0x22, 0x23, 0x24, 0x31, 0x32, 0x80, 0x00, 0x41, 0x42, 0x43, 0x44, 0x51, 0x52, 0x53, 0x54, 0x61, 0x62, 0x63, 0x64, 0x71, 0x72, 0x73, 0x74, 0x81, 0x82, 0x83, 0x84, 0x85, 0x86}
	b = append(b, make([]byte, 10)...)
	b = append(b, "host"+strings.Repeat("\x00", 60)...)
	b = append(b, "boot/image"+strings.Repeat("\x00", 118)...)
	b = append(b, 0x63, 0x82, 0x53, 0x63, 53, 1, 2, 51, 4, 0, 0, 14, 16, 255)
	checkTaken(t, b, fullMessage())
	for at, turn := range map[int]func(m *api.Bootp){
		3:  func(m *api.Bootp) { m.Hops ^= 0x40 },
		4:  func(m *api.Bootp) { m.Xid ^= 0x40000000 },
		7:  func(m *api.Bootp) { m.Xid ^= 0x40 },
		8:  func(m *api.Bootp) { m.Secs ^= 0x4000 },
		9:  func(m *api.Bootp) { m.Secs ^= 0x40 },
		12: func(m *api.Bootp) { m.Ci ^= 0x40000000 },
		15: func(m *api.Bootp) { m.Ci ^= 0x40 },
		16: func(m *api.Bootp) { m.Yi ^= 0x40000000 },
		19: func(m *api.Bootp) { m.Yi ^= 0x40 },
		20: func(m *api.Bootp) { m.Si ^= 0x40000000 },
		23: func(m *api.Bootp) { m.Si ^= 0x40 },
		24: func(m *api.Bootp) { m.Gi ^= 0x40000000 },
		27: func(m *api.Bootp) { m.Gi ^= 0x40 },
		28: func(m *api.Bootp) { m.Mac[0] ^= 0x40 },
		33: func(m *api.Bootp) { m.Mac[5] ^= 0x40 },
		44: func(m *api.Bootp) { m.Sname = "(ost" },
	} {
		want := fullMessage()
		turn(&want)
		checkTaken(t, put(b, at, b[at]^0x40), want)
	}
}

// TestDecodeLengths: P16.2: fewer than 240 bytes are ErrShort whatever they are; 240 have no options; from 241 on options are read as far as they go.
func TestDecodeLengths(t *testing.T) {
	checkRefused(t, nil, api.ErrShort)
	checkRefused(t, []byte{}, api.ErrShort)
	whole := plainForm(fullMessage())
	for n := range 240 {
		checkRefused(t, whole[:n:n], api.ErrShort)
		checkRefused(t, make([]byte, n), api.ErrShort)
		checkRefused(t, bytes.Repeat([]byte{255}, n), api.ErrShort)
	}
	want := fullMessage()
	want.Options = nil
	checkTaken(t, whole[:240:240], want)
	checkTaken(t, withOptions(whole, 0), want)
	checkTaken(t, withOptions(whole, 255), want)
	checkRefused(t, withOptions(whole, 53), api.ErrShort)
	checkRefused(t, withOptions(whole, 53, 1), api.ErrShort)
	want.Options = list(opt(53, 2))
	checkTaken(t, withOptions(whole, 53, 1, 2), want)
	checkTaken(t, withOptions(whole, 53, 1, 2, 255), want)
	for n := 240; n <= len(whole); n++ {
		checkDecode(t, whole[:n:n])
	}
}

// TestDecodeLong: P16.2 names no most: any number of bytes is taken, and options that Encode has no room for are told.
func TestDecodeLong(t *testing.T) {
	want := chapterMessage()
	for _, n := range []int{301, 1472, 1473, 1500, 65536, 1 << 20} {
		checkTaken(t, append(plainForm(chapterMessage()), make([]byte, n)...), want)
		checkTaken(t, append(plainForm(chapterMessage()), bytes.Repeat([]byte{7}, n)...), want)
		checkTaken(t, withOptions(bare(), append(make([]byte, n), 53, 1, 1)...), want)
	}
	for _, n := range []int{1221, 1222, 1231, 1232, 1233, 5000, 100000} {
		want.Options = list(opt(7, someData(n)...), opt(53, 1))
		checkTaken(t, withOptions(bare(), plainOptions(want.Options)...), want)
	}
}

// TestDecodeLengthIsNotCapacity: what lies behind the bytes that are handed in is not theirs.
func TestDecodeLengthIsNotCapacity(t *testing.T) {
	room := plainForm(fullMessage())
	for n := range 240 {
		checkRefused(t, room[:n], api.ErrShort)
	}
	want := fullMessage()
	want.Options = nil
	checkTaken(t, room[:240], want)
	checkRefused(t, room[:241], api.ErrShort)
	checkRefused(t, room[:242], api.ErrShort)
}

// TestDecodeOps: P16.2: of all bytes 1 and 2 alone are an Op, and 1 and 6 alone are the hardware.
func TestDecodeOps(t *testing.T) {
	b := plainForm(fullMessage())
	for x := range 256 {
		for at, right := range map[int]bool{0: x == 1 || x == 2, 1: x == 1, 2: x == 6} {
			c := put(b, at, byte(x))
			if right {
				want := fullMessage()
				want.Op = int(c[0])
				checkTaken(t, c, want)
			} else {
				checkRefused(t, c, api.ErrBootp)
			}
		}
	}
	checkRefused(t, put(b, 1, 6, 1), api.ErrBootp)
	checkRefused(t, put(b, 1, 0, 0), api.ErrBootp)
}

// TestDecodeMark: P16.2: each of the mark's four bytes is looked at, all of it.
func TestDecodeMark(t *testing.T) {
	b := plainForm(fullMessage())
	for at := 236; at < 240; at++ {
		for x := range 256 {
			if c := put(b, at, byte(x)); bytes.Equal(c, b) {
				checkTaken(t, c, fullMessage())
			} else {
				checkRefused(t, c, api.ErrMagic)
			}
		}
	}
	checkRefused(t, put(b, 236, 0, 0, 0, 0), api.ErrMagic)
	checkRefused(t, put(b, 236, 0x63, 0x53, 0x82, 0x63), api.ErrMagic)
}

// TestDecodeFlags: P16.2: All is the highest bit of byte 10; no other bit of the bytes 10 and 11 is looked at.
func TestDecodeFlags(t *testing.T) {
	b := plainForm(fullMessage())
	want := fullMessage()
	for x := range 65536 {
		want.All = x >= 32768
		b[10], b[11] = byte(x/256), byte(x%256)
		if m, e := bootp.Decode(b); e != api.OK || !same(m, want) {
			t.Fatalf("Decode with %04x: %v, %d", x, m, e)
		}
	}
}

// TestDecodeBehindMac: P16.2: the bytes 34 to 43 are not looked at.
func TestDecodeBehindMac(t *testing.T) {
	b := plainForm(fullMessage())
	for at := 34; at < 44; at++ {
		for x := range 256 {
			checkTaken(t, put(b, at, byte(x)), fullMessage())
		}
	}
	checkTaken(t, put(b, 34, bytes.Repeat([]byte{255}, 10)...), fullMessage())
}

// TestDecodeTexts: P16.2: a text goes up to its first byte 0, whatever stands behind, and is the whole room, if there is none.
func TestDecodeTexts(t *testing.T) {
	r := draws()
	b := plainForm(fullMessage())
	for _, room := range []struct {
		at, many int
		of       func(m *api.Bootp) *string
	}{
		{44, 64, func(m *api.Bootp) *string { return &m.Sname }},
		{108, 128, func(m *api.Bootp) *string { return &m.File }},
	} {
		want := fullMessage()
		text := []byte(someText(r, room.many))
		*room.of(&want) = string(text)
		checkTaken(t, put(b, room.at, text...), want)
		for n := range room.many {
			*room.of(&want) = string(text[:n])
			checkTaken(t, put(b, room.at, put(text, n, 0)...), want)
			checkTaken(t, put(b, room.at, append(bytes.Clone(text[:n]), make([]byte, room.many-n)...)...), want)
			for k := n; k < room.many; k++ {
				checkTaken(t, put(b, room.at, put(put(text, k, 0), n, 0)...), want)
			}
		}
	}
	want := fullMessage()
	want.Sname, want.File = strings.Repeat("x", 64), strings.Repeat("x", 128)
	checkTaken(t, put(b, 44, bytes.Repeat([]byte("x"), 192)...), want)
	want.Sname, want.File = "s", "f"
	checkTaken(t, put(put(b, 44, 's', 0, 't'), 108, 'f', 0, 0, 'g'), want)
	want.Sname, want.File = "", ""
	checkTaken(t, put(put(b, 44, 0, 't'), 108, 0, 'g'), want)
}

// TestDecodeTextsAreNoOptions: P16.2: where no option says so, a text that looks like options is a text.
func TestDecodeTextsAreNoOptions(t *testing.T) {
	b := plainForm(chapterMessage())
	want := chapterMessage()
	want.Sname, want.File = "\x36\x01\x07\xff", "\x07\xff"
	checkTaken(t, put(put(b, 44, 54, 1, 7, 255), 108, 7, 255), want)
}

// TestDecodeOptions: P16.2: the options are those that Parse tells, cut ones put together, in their order; what stands behind the end is not looked at.
func TestDecodeOptions(t *testing.T) {
	want := chapterMessage()
	want.Options = list(opt(53, 1), opt(7, 'a', 'b'), opt(9))
	checkTaken(t, withOptions(bare(), 0, 53, 1, 1, 0, 0, 7, 1, 'a', 9, 0, 7, 1, 'b'), want)
	checkTaken(t, withOptions(bare(), 53, 1, 1, 7, 2, 'a', 'b', 9, 0, 255, 7, 200), want)
	want.Options = list(opt(67, bytes.Repeat([]byte{97}, 256)...))
	checkTaken(t, withOptions(bare(), plainOptions(want.Options)...), want)
	want.Options = row(60, 64, 2)
	b := plainOptions(want.Options)
	checkTaken(t, withOptions(bare(), b...), want)
	checkRefused(t, withOptions(bare(), plainOptions(row(60, 65, 2))...), api.ErrLong)
	want.Options[0].Data = []byte{100, 100, 5}
	checkTaken(t, withOptions(bare(), append(b[:len(b)-1], 60, 1, 5)...), want)
	for _, short := range [][]byte{{53}, {53, 1}, {53, 2, 1}, {53, 255}, {0, 0, 7}, {53, 1, 1, 7, 9, 255}} {
		checkRefused(t, withOptions(bare(), short...), api.ErrShort)
	}
}

// TestDecodeErrorOrder: P16.2 with R5: of all faults the first one in its order is told, whichever of them stand together.
func TestDecodeErrorOrder(t *testing.T) {
	for set := range 1 << 8 {
		b, want := plainForm(fullMessage())[:240], api.OK
		b[108] = 0
		behind := []byte{53, 1, 2}
		if set&128 != 0 { // File's room, which holds options
			b[108], b[109], want = 7, 255, api.ErrShort
			behind = append(behind, 52, 1, 1)
		}
		if set&64 != 0 {
			behind, want = append(behind, 52, 1, 4), api.ErrBoth
		}
		if set&32 != 0 {
			behind, want = append(behind, 9, 9), api.ErrShort
		}
		if set&16 != 0 {
			b[239], want = 0, api.ErrMagic
		}
		if set&8 != 0 {
			b[2], want = 16, api.ErrBootp
		}
		if set&4 != 0 {
			b[1], want = 0, api.ErrBootp
		}
		if set&2 != 0 {
			b[0], want = 3, api.ErrBootp
		}
		b = append(b, behind...)
		if set&1 != 0 {
			b, want = b[:239], api.ErrShort
		}
		if want == api.OK {
			checkDecode(t, b)
		} else {
			checkRefused(t, b, want)
		}
	}
}

// TestDecodeLongAheadOfBoth: P16.2: too many codes are told ahead of an overload that may not be, and ahead of what stands in the rooms.
func TestDecodeLongAheadOfBoth(t *testing.T) {
	codes := row(60, 64, 1)
	b := plainOptions(append(list(opt(52, 9)), codes...))
	checkRefused(t, withOptions(bare(), b...), api.ErrLong)
	b = plainOptions(append(list(opt(52, 1)), codes...))
	checkRefused(t, put(withOptions(bare(), b...), 108, 7, 255), api.ErrLong)
	b = plainOptions(append(list(opt(52, 9)), codes[:63]...))
	checkRefused(t, withOptions(bare(), b...), api.ErrBoth)
}

// TestDecodeAny: P16.2: any bytes, nearly right ones, and messages with options in their rooms.
func TestDecodeAny(t *testing.T) {
	r := draws()
	many := map[api.Errno]int{}
	for range 30000 {
		b := someBytes(r, 240+r.IntN(60))
		many[checkDecode(t, b)]++
		copy(b, []byte{byte(1 + r.IntN(2)), 1, 6})
		copy(b[236:], []byte{0x63, 0x82, 0x53, 0x63})
		many[checkDecode(t, b)]++
		copy(b[44:], lowBytes(b[44:236]))
		copy(b[240:], lowBytes(b[240:]))
		many[checkDecode(t, b)]++
		over := slices.Concat([]byte{52, 1, byte(r.IntN(4))}, []byte{53, 1, byte(r.IntN(9))}, []byte{255})
		copy(b[240:], over)
		many[checkDecode(t, b)]++
		b[r.IntN(len(b))] ^= 1 << r.IntN(8)
		many[checkDecode(t, b)]++
		many[checkDecode(t, b[:r.IntN(len(b))])]++
	}
	for _, e := range []api.Errno{api.OK, api.ErrShort, api.ErrBootp, api.ErrMagic, api.ErrBoth} {
		if many[e] < 300 {
			t.Errorf("how often each error came: %v", many)
		}
	}
}

// lowBytes are small, so that as options they are mostly whole; now and then one is an end, or the option 52.
func lowBytes(b []byte) []byte {
	c := bytes.Clone(b)
	for i, x := range c {
		switch {
		case x >= 254:
			c[i] = 255
		case x >= 250:
			c[i] = 52
		default:
			c[i] = x % 4
		}
	}
	return c
}
