package tftp_test

import (
	"bytes"
	"fmt"
	"math"
	"math/rand/v2"
	"slices"
	"strings"
	"testing"

	"slipway/api"
	"slipway/tftp"
)

// ch is choices, a name and a value each.
func ch(l ...any) []api.Choice {
	var out []api.Choice
	for i := 0; i < len(l); i += 2 {
		out = append(out, api.Choice{Name: l[i].(string), Value: l[i+1].(int)})
	}
	return out
}

// points is a text in which a byte 0 is written as a point.
func points(s string) string { return strings.ReplaceAll(s, ".", "\x00") }

// wire is bytes of an Op, and texts with points behind it.
func wire(op byte, s string) []byte { return append([]byte{0, op}, points(s)...) }

func known() []string { return []string{"blksize", "windowsize", "tsize"} }

// strangers are names that are not known, though some are near to it: some have letters that the library takes for k or s.
func strangers() []string {
	return []string{"", "b", "foo", "blksiz", "blksizee", " blksize", "blksize ", "blk\u017fize", "bl\u212asize", "t\u017fize", "window\u017fize", "tsıze", "tsi\xffe", "\xfftsize", "tsize\xff", "timeout", "octet", "\x42\x4c\x4b\x53\x49\x5a\x25", "blksize\u0301", "ｔｓｉｚｅ", "t3ize", "tsi:e", "Tsi[e", "\x54\x53\x49\x1a\x45", "tsi\x9ae"}
}

// strange are far beyond all bounds, though the lowest bits of some are not.
func strange() []int {
	return []int{math.MinInt, math.MinInt + 1, -1 << 32, -65536, -65535, -256, -255, -2, -1, 1 << 32, 1<<32 + 1, 1<<32 + 8, 1 << 48, math.MaxInt - 1, math.MaxInt}
}

// draws is the same row of numbers at each run: a fault that it shows can be looked at again.
func draws() *rand.Rand { return rand.New(rand.NewPCG(17, 1)) }

func someBytes(r *rand.Rand, n int) []byte {
	b := make([]byte, n)
	for i := range b {
		b[i] = byte(r.Uint32())
	}
	return b
}

// someText has no byte 0; it is no text of letters either.
func someText(r *rand.Rand, n int) string {
	b := make([]byte, n)
	for i := range b {
		b[i] = byte(1 + r.IntN(255))
	}
	return string(b)
}

func pick[T any](r *rand.Rand, l ...T) T { return l[r.IntN(len(l))] }

// someCase is the text with some of its letters great.
func someCase(r *rand.Rand, s string) string {
	b := []byte(s)
	for i := range b {
		if b[i] >= 'a' && b[i] <= 'z' && r.IntN(2) == 0 {
			b[i] -= 32
		}
	}
	return string(b)
}

// someKnown are choices that can be laid, in any order.
func someKnown(r *rand.Rand) []api.Choice {
	var l []api.Choice
	for _, i := range r.Perm(3)[:r.IntN(4)] {
		l = append(l, api.Choice{Name: known()[i], Value: pick(r, 0, 1, 7, 8, 9, 512, 65464, 65465, math.MaxInt32, r.IntN(1<<31))})
	}
	return l
}

// somePacket is one that can be laid; what its Op doesn't use is zero.
func somePacket(r *rand.Rand) api.Tftp {
	switch pick(r, 1, 3, 4, 5, 6) {
	case 1:
		return api.Tftp{Op: 1, File: someText(r, 1+r.IntN(64)), Mode: "octet", Choices: someKnown(r)}
	case 3:
		return api.Tftp{Op: 3, Block: r.IntN(65536), Data: someBytes(r, r.IntN(600))}
	case 4:
		return api.Tftp{Op: 4, Block: r.IntN(65536)}
	case 5:
		return api.Tftp{Op: 5, Code: r.IntN(65536), Text: someText(r, r.IntN(256))}
	}
	return api.Tftp{Op: 6, Choices: someKnown(r)}
}

// packets are one of each form at least, at its edges too.
func packets() []api.Tftp {
	l := []api.Tftp{
		{Op: 1, File: "a", Mode: "octet"},
		{Op: 1, File: strings.Repeat("\xff", 64), Mode: "octet", Choices: ch("tsize", 0)},
		{Op: 1, File: "boot/image", Mode: "octet", Choices: ch("blksize", 1428, "windowsize", 8, "tsize", 0)},
		{Op: 1, File: "octet", Mode: "octet", Choices: ch("tsize", math.MaxInt32, "windowsize", 0, "blksize", math.MaxInt32)},
		{Op: 3}, {Op: 3, Block: 1, Data: []byte{0}}, {Op: 3, Block: 258, Data: []byte("abc")}, {Op: 3, Block: 65535, Data: someBytes(draws(), 65464)},
		{Op: 4}, {Op: 4, Block: 1}, {Op: 4, Block: 258}, {Op: 4, Block: 65535},
		{Op: 5}, {Op: 5, Code: 1, Text: "no"}, {Op: 5, Code: 65535, Text: strings.Repeat("\x01\xff", 127) + "x"},
		{Op: 6}, {Op: 6, Choices: ch("tsize", 7)}, {Op: 6, Choices: ch("windowsize", 65535, "tsize", 10, "blksize", 8)},
	}
	return l
}

// filled is the packet with something in each field that its Op doesn't use: what couldn't be laid if it were used.
func filled(p api.Tftp) api.Tftp {
	if p.Op != 1 {
		p.File, p.Mode = "\x00"+strings.Repeat("f", 99), "mail\x00"
	}
	if p.Op != 1 && p.Op != 6 {
		p.Choices = ch("foo", -1, "tsize", -1, "tsize", -1)
	}
	if p.Op != 3 && p.Op != 4 {
		p.Block = -1
	}
	if p.Op != 3 {
		p.Data = []byte("not looked at")
	}
	if p.Op != 5 {
		p.Code, p.Text = 65536, "\x00"+strings.Repeat("t", 999)
	}
	return p
}

func plainKnown(name string) bool {
	return name == "blksize" || name == "windowsize" || name == "tsize"
}

func plainChoices(l []api.Choice) []byte {
	s := ""
	for _, c := range l {
		s += fmt.Sprintf("%s\x00%d\x00", c.Name, c.Value)
	}
	return []byte(s)
}

// plainForm is the chapter's form of a packet that can be laid.
func plainForm(p api.Tftp) []byte {
	b := []byte{0, byte(p.Op)}
	switch p.Op {
	case 1:
		b = append(b, p.File+"\x00"+p.Mode+"\x00"...)
		b = append(b, plainChoices(p.Choices)...)
	case 3:
		b = append(b, byte(p.Block/256), byte(p.Block%256))
		b = append(b, p.Data...)
	case 4:
		b = append(b, byte(p.Block/256), byte(p.Block%256))
	case 5:
		b = append(b, byte(p.Code/256), byte(p.Code%256))
		b = append(b, p.Text+"\x00"...)
	case 6:
		b = append(b, plainChoices(p.Choices)...)
	}
	return b
}

func plainBadChoices(l []api.Choice) bool {
	many := map[string]int{}
	for _, c := range l {
		many[c.Name]++
		if !plainKnown(c.Name) || c.Value < 0 || c.Value > 2147483647 || many[c.Name] > 1 {
			return true
		}
	}
	return false
}

// plainUnlaid is P17.1's errors in their order.
func plainUnlaid(p api.Tftp) api.Errno {
	zero := func(s string) bool { return strings.Contains(s, "\x00") }
	switch {
	case p.Op != 1 && p.Op != 3 && p.Op != 4 && p.Op != 5 && p.Op != 6:
		return 170
	case p.Op == 1 && (p.File == "" || len(p.File) > 64 || zero(p.File) || p.Mode != "octet"):
		return 171
	case (p.Op == 1 || p.Op == 6) && plainBadChoices(p.Choices):
		return 172
	case (p.Op == 3 || p.Op == 4) && (p.Block < 0 || p.Block > 65535):
		return 1
	case p.Op == 3 && len(p.Data) > 65464:
		return 2
	case p.Op == 5 && (p.Code < 0 || p.Code > 65535):
		return 1
	case p.Op == 5 && zero(p.Text):
		return 171
	case p.Op == 5 && len(p.Text) > 255:
		return 2
	}
	return 0
}

// plainSmall goes byte by byte.
func plainSmall(s string) string {
	b := []byte(s)
	for i := range b {
		if b[i] >= 65 && b[i] <= 90 {
			b[i] += 32
		}
	}
	return string(b)
}

// plainDigits is -1, if the text is not the decimal digits of 0 to 2147483647.
func plainDigits(s string) int {
	if s == "" || len(s) > 10 || len(s) > 1 && s[0] == '0' {
		return -1
	}
	n := 0
	for i := range len(s) {
		if s[i] < '0' || s[i] > '9' {
			return -1
		}
		n = n*10 + int(s[i]-'0')
	}
	if n > 2147483647 {
		return -1
	}
	return n
}

// plainText is where the text's byte 0 stands, -1 if none does.
func plainText(b []byte) int { return bytes.IndexByte(b, 0) }

// plainReadChoices is what P17.2 says of choices.
func plainReadChoices(b []byte) ([]api.Choice, api.Errno) {
	var l []api.Choice
	came := map[string]int{}
	for len(b) > 0 {
		parts := bytes.SplitN(b, []byte{0}, 3)
		if len(parts) < 3 {
			return nil, 5
		}
		name, value := plainSmall(string(parts[0])), plainDigits(string(parts[1]))
		b = parts[2]
		if !plainKnown(name) {
			continue
		}
		came[name]++
		if value < 0 || came[name] > 1 {
			return nil, 172
		}
		l = append(l, api.Choice{Name: name, Value: value})
	}
	return l, 0
}

func plainReadRead(b []byte) (api.Tftp, api.Errno) {
	end := plainText(b)
	switch {
	case end == -1:
		return api.Tftp{}, 5
	case end == 0 || end > 64:
		return api.Tftp{}, 171
	}
	file, rest := string(b[:end]), b[end+1:]
	end = plainText(rest)
	switch {
	case end == -1:
		return api.Tftp{}, 5
	case plainSmall(string(rest[:end])) != "octet":
		return api.Tftp{}, 171
	}
	l, e := plainReadChoices(rest[end+1:])
	if e != 0 {
		return api.Tftp{}, e
	}
	return api.Tftp{Op: 1, File: file, Mode: "octet", Choices: l}, 0
}

// plainReadNumbered is what P17.2 says of the forms that have a number behind the Op.
func plainReadNumbered(op int, b []byte) (api.Tftp, api.Errno) {
	if len(b) < 2 {
		return api.Tftp{}, 5
	}
	n, rest := int(b[0])*256+int(b[1]), b[2:]
	switch {
	case op == 4:
		return api.Tftp{Op: 4, Block: n}, 0
	case op == 3 && len(rest) > 65464:
		return api.Tftp{}, 2
	case op == 3:
		return api.Tftp{Op: 3, Block: n, Data: rest}, 0
	}
	end := plainText(rest)
	switch {
	case end == -1:
		return api.Tftp{}, 5
	case end > 255:
		return api.Tftp{}, 2
	}
	return api.Tftp{Op: 5, Code: n, Text: string(rest[:end])}, 0
}

// plainRead is P17.2.
func plainRead(b []byte) (api.Tftp, api.Errno) {
	switch {
	case len(b) < 2:
		return api.Tftp{}, 5
	case b[0] != 0:
		return api.Tftp{}, 170
	}
	switch b[1] {
	case 1:
		return plainReadRead(b[2:])
	case 3, 4, 5:
		return plainReadNumbered(int(b[1]), b[2:])
	case 6:
		l, e := plainReadChoices(b[2:])
		if e != 0 {
			return api.Tftp{}, e
		}
		return api.Tftp{Op: 6, Choices: l}, 0
	}
	return api.Tftp{}, 170
}

func same(x, y api.Tftp) bool {
	return x.Op == y.Op && x.File == y.File && x.Mode == y.Mode && slices.Equal(x.Choices, y.Choices) && x.Block == y.Block && bytes.Equal(x.Data, y.Data) && x.Code == y.Code && x.Text == y.Text
}

func checkLaid(t *testing.T, p api.Tftp) {
	t.Helper()
	if b, e := tftp.Encode(p); e != api.OK || !bytes.Equal(b, plainForm(p)) {
		t.Errorf("Encode(%.200q): %.200q, %d, want %.200q", fmt.Sprint(p), b, e, plainForm(p))
	}
}

// checkUnlaid: an error, beside which there are no bytes.
func checkUnlaid(t *testing.T, p api.Tftp, err api.Errno) {
	t.Helper()
	if b, e := tftp.Encode(p); e != err || len(b) != 0 {
		t.Errorf("Encode(%.200q): %d bytes, %d, want none, %d", fmt.Sprint(p), len(b), e, err)
	}
}

// checkEncode holds Encode against what the chapter says of this packet, whichever it is.
func checkEncode(t *testing.T, p api.Tftp) api.Errno {
	t.Helper()
	err := plainUnlaid(p)
	if err != 0 {
		checkUnlaid(t, p, err)
	} else {
		checkLaid(t, p)
	}
	return err
}

func checkTaken(t *testing.T, b []byte, want api.Tftp) {
	t.Helper()
	if p, e := tftp.Decode(b); e != api.OK || !same(p, want) {
		t.Errorf("Decode(%.200q): %.200q, %d, want %.200q", b, fmt.Sprint(p), e, fmt.Sprint(want))
	}
}

// checkRefused: an error, beside which there is nothing of a packet.
func checkRefused(t *testing.T, b []byte, err api.Errno) {
	t.Helper()
	if p, e := tftp.Decode(b); e != err || !same(p, api.Tftp{}) {
		t.Errorf("Decode(%.200q): %.200q, %d, want none, %d", b, fmt.Sprint(p), e, err)
	}
}

// checkDecode holds Decode against what the chapter says of these bytes, whichever they are.
func checkDecode(t *testing.T, b []byte) api.Errno {
	t.Helper()
	want, err := plainRead(b)
	if err != 0 {
		checkRefused(t, b, err)
	} else {
		checkTaken(t, b, want)
	}
	return err
}
