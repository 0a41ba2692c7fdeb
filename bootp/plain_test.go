package bootp_test

import (
	"bytes"
	"math"
	"math/rand/v2"
	"strings"
	"testing"

	"slipway/api"
	"slipway/bootp"
	"slipway/option"
)

func opt(code int, data ...byte) api.Option { return api.Option{Code: code, Data: data} }

func list(l ...api.Option) []api.Option { return l }

// row is as many options as are wanted, of the codes from the first one on.
func row(first, many, length int) []api.Option {
	var l []api.Option
	for i := range many {
		l = append(l, opt(first+i, bytes.Repeat([]byte{byte(100 + i)}, length)...))
	}
	return l
}

func station() api.Mac { return api.Mac{2, 0, 0, 0, 0, 7} }

// chapterMessage is the one of the chapter's examples.
func chapterMessage() api.Bootp {
	return api.Bootp{Op: 1, Xid: 1234, Secs: 5, All: true, Mac: station(), Options: list(opt(53, 1))}
}

// fullMessage has another number in each place.
func fullMessage() api.Bootp {
	return api.Bootp{Op: 2, Hops: 0x11, Xid: 0x21222324, Secs: 0x3132, All: true, Ci: 0x41424344, Yi: 0x51525354, Si: 0x61626364, Gi: 0x71727374, Mac: api.Mac{0x81, 0x82, 0x83, 0x84, 0x85, 0x86}, Sname: "host", File: "boot/image", Options: list(opt(53, 2), opt(51, 0, 0, 14, 16))}
}

// draws is the same row of numbers at each run: a fault that it shows can be looked at again.
func draws() *rand.Rand { return rand.New(rand.NewPCG(16, 1)) }

func someBytes(r *rand.Rand, n int) []byte {
	b := make([]byte, n)
	for i := range b {
		b[i] = byte(r.Uint32())
	}
	return b
}

// someData is not all alike, so that a byte at another's place is seen.
func someData(n int) []byte { return someBytes(draws(), n) }

// someText has no byte 0; it is no text of letters either.
func someText(r *rand.Rand, n int) string {
	b := make([]byte, n)
	for i := range b {
		b[i] = byte(1 + r.IntN(255))
	}
	return string(b)
}

// someOptions have unlike codes in any order, and not 52.
func someOptions(r *rand.Rand, many int) []api.Option {
	var l []api.Option
	for _, i := range r.Perm(254) {
		if len(l) < many && i+1 != 52 {
			l = append(l, opt(i+1, someBytes(r, r.IntN(8))...))
		}
	}
	return l
}

// someMessage is one that can be laid.
func someMessage(r *rand.Rand) api.Bootp {
	m := api.Bootp{Op: 1 + r.IntN(2), Hops: r.IntN(256), Xid: r.Uint32(), Secs: r.IntN(65536), All: r.IntN(2) == 0, Ci: r.Uint32(), Yi: r.Uint32(), Si: r.Uint32(), Gi: r.Uint32(), Sname: someText(r, r.IntN(64)), File: someText(r, r.IntN(128)), Options: someOptions(r, r.IntN(65))}
	copy(m.Mac[:], someBytes(r, 6))
	return m
}

// strange are far beyond all bounds, though the lowest bits of some are not.
func strange() []int {
	return []int{math.MinInt, math.MinInt + 1, -65536, -65535, -256, -255, -254, -2, 65537, 131073, 1 << 32, 1<<32 + 1, 1<<32 + 2, math.MaxInt}
}

func four(n uint32) []byte {
	return []byte{byte(n / 0x1000000), byte(n / 0x10000 % 256), byte(n / 256 % 256), byte(n % 256)}
}

// plainOptions is P15.1's form, a byte behind the other.
func plainOptions(l []api.Option) []byte {
	var b []byte
	for _, o := range l {
		if len(o.Data) == 0 {
			b = append(b, byte(o.Code), 0)
		}
		for i, x := range o.Data {
			if i%255 == 0 {
				b = append(b, byte(o.Code), byte(min(255, len(o.Data)-i)))
			}
			b = append(b, x)
		}
	}
	return append(b, 255)
}

// plainForm is the chapter's table, a line behind the other.
func plainForm(m api.Bootp) []byte {
	b := []byte{byte(m.Op), 1, 6, byte(m.Hops)}
	b = append(b, four(m.Xid)...)
	b = append(b, byte(m.Secs/256), byte(m.Secs%256))
	if m.All {
		b = append(b, 128, 0)
	} else {
		b = append(b, 0, 0)
	}
	for _, ip := range []uint32{m.Ci, m.Yi, m.Si, m.Gi} {
		b = append(b, four(ip)...)
	}
	b = append(b, m.Mac[0], m.Mac[1], m.Mac[2], m.Mac[3], m.Mac[4], m.Mac[5], 0, 0, 0, 0, 0, 0, 0, 0, 0, 0)
	b = append(b, m.Sname+strings.Repeat("\x00", 64-len(m.Sname))...)
	b = append(b, m.File+strings.Repeat("\x00", 128-len(m.File))...)
	b = append(b, 0x63, 0x82, 0x53, 0x63)
	b = append(b, plainOptions(m.Options)...)
	for len(b) < 300 {
		b = append(b, 0)
	}
	return b
}

// plainUnlaid is P16.1's errors in their order.
func plainUnlaid(m api.Bootp) api.Errno {
	switch {
	case m.Op != 1 && m.Op != 2, m.Hops < 0, m.Hops > 255, m.Secs < 0, m.Secs > 65535, strings.Contains(m.Sname, "\x00"), strings.Contains(m.File, "\x00"):
		return 160
	case len(m.Sname) > 63, len(m.File) > 127:
		return 2
	}
	many := map[int]int{}
	strangers := 0
	for _, o := range m.Options {
		many[o.Code]++
		if o.Code < 1 || o.Code > 254 || many[o.Code] > 1 {
			strangers++
		}
	}
	switch {
	case many[52] > 0:
		return 162
	case strangers > 0:
		return 150
	case len(m.Options) > 64, len(plainOptions(m.Options)) > 1232:
		return 2
	}
	return 0
}

func plainText(room []byte) string {
	for i, x := range room {
		if x == 0 {
			return string(room[:i])
		}
	}
	return string(room)
}

func plainNumber(b []byte) uint32 {
	n := uint32(0)
	for _, x := range b {
		n = n*256 + uint32(x)
	}
	return n
}

// plainFields is a message without options, as if no room held any.
func plainFields(b []byte) api.Bootp {
	return api.Bootp{Op: int(b[0]), Hops: int(b[3]), Xid: plainNumber(b[4:8]), Secs: int(plainNumber(b[8:10])), All: b[10] >= 128, Ci: plainNumber(b[12:16]), Yi: plainNumber(b[16:20]), Si: plainNumber(b[20:24]), Gi: plainNumber(b[24:28]), Mac: api.Mac{b[28], b[29], b[30], b[31], b[32], b[33]}, Sname: plainText(b[44:108]), File: plainText(b[108:236])}
}

// plainOver is what the option 52 says: 0, if it isn't there, 4, if it may not be.
func plainOver(l []api.Option) int {
	for _, o := range l {
		switch {
		case o.Code != 52:
		case len(o.Data) == 1 && o.Data[0] >= 1 && o.Data[0] <= 3:
			return int(o.Data[0])
		default:
			return 4
		}
	}
	return 0
}

// plainRead is P16.2, line by line.
func plainRead(b []byte) (api.Bootp, api.Errno) {
	switch {
	case len(b) < 240:
		return api.Bootp{}, 5
	case b[0] != 1 && b[0] != 2, b[1] != 1, b[2] != 6:
		return api.Bootp{}, 160
	case string(b[236:240]) != "\x63\x82\x53\x63":
		return api.Bootp{}, 161
	}
	l, e := option.Parse(b[240:])
	if e != 0 {
		return api.Bootp{}, e
	}
	m := plainFields(b)
	switch plainOver(l) {
	case 1:
		l, e = option.Parse(b[240:], b[108:236])
		m.File = ""
	case 2:
		l, e = option.Parse(b[240:], b[44:108])
		m.Sname = ""
	case 3:
		l, e = option.Parse(b[240:], b[108:236], b[44:108])
		m.File, m.Sname = "", ""
	case 4:
		e = 162
	}
	if e != 0 {
		return api.Bootp{}, e
	}
	for _, o := range l {
		if o.Code != 52 {
			m.Options = append(m.Options, o)
		}
	}
	return m, 0
}

func sameOptions(x, y []api.Option) bool {
	if len(x) != len(y) {
		return false
	}
	for i := range x {
		if x[i].Code != y[i].Code || !bytes.Equal(x[i].Data, y[i].Data) {
			return false
		}
	}
	return true
}

func same(x, y api.Bootp) bool {
	return x.Op == y.Op && x.Hops == y.Hops && x.Xid == y.Xid && x.Secs == y.Secs && x.All == y.All && x.Ci == y.Ci && x.Yi == y.Yi && x.Si == y.Si && x.Gi == y.Gi && x.Mac == y.Mac && x.Sname == y.Sname && x.File == y.File && sameOptions(x.Options, y.Options)
}

func checkLaid(t *testing.T, m api.Bootp) {
	t.Helper()
	if b, e := bootp.Encode(m); e != api.OK || !bytes.Equal(b, plainForm(m)) {
		t.Errorf("Encode(%v): % x, %d, want % x", m, b, e, plainForm(m))
	}
}

// checkUnlaid: an error, beside which there are no bytes.
func checkUnlaid(t *testing.T, m api.Bootp, err api.Errno) {
	t.Helper()
	if b, e := bootp.Encode(m); e != err || len(b) != 0 {
		t.Errorf("Encode(%v): %d bytes, %d, want none, %d", m, len(b), e, err)
	}
}

// checkEncode holds Encode against what the chapter says of this message, whichever it is.
func checkEncode(t *testing.T, m api.Bootp) api.Errno {
	t.Helper()
	err := plainUnlaid(m)
	if err != 0 {
		checkUnlaid(t, m, err)
	} else {
		checkLaid(t, m)
	}
	return err
}

func checkTaken(t *testing.T, b []byte, want api.Bootp) {
	t.Helper()
	if m, e := bootp.Decode(b); e != api.OK || !same(m, want) {
		t.Errorf("Decode(% x): %v, %d, want %v", b, m, e, want)
	}
}

// checkRefused: an error, beside which there is nothing of a message.
func checkRefused(t *testing.T, b []byte, err api.Errno) {
	t.Helper()
	if m, e := bootp.Decode(b); e != err || !same(m, api.Bootp{}) {
		t.Errorf("Decode(% x): %v, %d, want none, %d", b, m, e, err)
	}
}

// checkDecode holds Decode against what the chapter says of these bytes, whichever they are.
func checkDecode(t *testing.T, b []byte) api.Errno {
	t.Helper()
	want, err := plainRead(b)
	if err != 0 {
		checkRefused(t, b, err)
	} else {
		checkTaken(t, b, want)
	}
	return err
}

// put lays bytes over others at a place, in new memory.
func put(b []byte, at int, x ...byte) []byte {
	c := bytes.Clone(b)
	copy(c[at:], x)
	return c
}

// withOptions is the bytes ahead of the options, and these behind them.
func withOptions(b []byte, x ...byte) []byte { return append(bytes.Clone(b[:240]), x...) }

// bare is the chapter's message without its options and what fills it up.
func bare() []byte { return plainForm(chapterMessage())[:240] }
