package option_test

import (
	"bytes"
	"math"
	"math/rand/v2"
	"testing"

	"slipway/api"
	"slipway/option"
)

func opt(code int, data ...byte) api.Option { return api.Option{Code: code, Data: data} }

func list(l ...api.Option) []api.Option { return l }

// draws is the same row of numbers at each run: a fault that it shows can be looked at again.
func draws() *rand.Rand { return rand.New(rand.NewPCG(15, 1)) }

func someBytes(r *rand.Rand, n int) []byte {
	b := make([]byte, n)
	for i := range b {
		b[i] = byte(r.Uint32())
	}
	return b
}

// someData is not all alike, so that a byte at another's place is seen.
func someData(n int) []byte { return someBytes(draws(), n) }

// edgeLengths are those at which the number of pieces changes, and what stands beside them.
func edgeLengths() []int {
	return []int{0, 1, 2, 3, 4, 5, 253, 254, 255, 256, 257, 509, 510, 511, 512, 764, 765, 766, 1019, 1020, 1021, 2550, 2551}
}

// strangeCodes are beyond the bounds, though the lowest bits of some are not.
func strangeCodes() []int {
	return []int{math.MinInt, math.MinInt + 1, -65535, -256, -255, -254, -203, -2, -1, 0, 255, 256, 257, 309, 510, 511, 65535, 65537, 1 << 32, 1<<32 + 53, math.MaxInt}
}

// row is as many options as are wanted, of the codes from the first one on.
func row(first, many, length int) []api.Option {
	var l []api.Option
	for i := range many {
		l = append(l, opt(first+i, bytes.Repeat([]byte{byte(100 + i)}, length)...))
	}
	return l
}

// someLength is mostly short, now and then one at which the pieces change.
func someLength(r *rand.Rand) int {
	if r.IntN(8) == 0 {
		return edgeLengths()[r.IntN(len(edgeLengths()))]
	}
	return r.IntN(6)
}

// someList has options of unlike codes in any order.
func someList(r *rand.Rand, many int) []api.Option {
	var l []api.Option
	for _, i := range r.Perm(254)[:many] {
		l = append(l, opt(i+1, someBytes(r, someLength(r))...))
	}
	return l
}

// plainBytes is P15.1's form, a byte behind the other.
func plainBytes(l []api.Option) []byte {
	var b []byte
	for _, o := range l {
		if len(o.Data) == 0 {
			b = append(b, byte(o.Code), 0)
		}
		for i, x := range o.Data {
			if i%255 == 0 {
				b = append(b, byte(o.Code), byte(min(255, len(o.Data)-i)))
			}
			b = append(b, x)
		}
	}
	return append(b, 255)
}

// plainUnlaid is P15.1's errors in their order.
func plainUnlaid(l []api.Option, room int) api.Errno {
	many := map[int]int{}
	for _, o := range l {
		many[o.Code]++
		if o.Code < 1 || o.Code > 254 || many[o.Code] > 1 {
			return 150
		}
	}
	if len(l) > 64 || len(plainBytes(l)) > room {
		return 2
	}
	return 0
}

// plainReader goes through parts a byte at a time.
type plainReader struct {
	l    []api.Option
	at   int // the option that is being read
	left int // bytes of it that are still to come
	next func(p *plainReader, x byte) api.Errno
}

func plainCode(p *plainReader, x byte) api.Errno {
	if x == 0 {
		return 0
	}
	for i, o := range p.l {
		if o.Code == int(x) {
			p.at, p.next = i, plainLength
			return 0
		}
	}
	if len(p.l) >= 64 {
		return 2
	}
	p.l = append(p.l, opt(int(x)))
	p.at, p.next = len(p.l)-1, plainLength
	return 0
}

func plainLength(p *plainReader, x byte) api.Errno {
	p.left, p.next = int(x), plainByte
	if x == 0 {
		p.next = nil
	}
	return 0
}

func plainByte(p *plainReader, x byte) api.Errno {
	p.l[p.at].Data = append(p.l[p.at].Data, x)
	p.left--
	if p.left == 0 {
		p.next = nil
	}
	return 0
}

// plainRead is P15.2: beside an error there are no options.
func plainRead(parts ...[]byte) ([]api.Option, api.Errno) {
	p := plainReader{}
	for _, part := range parts {
		p.next = nil
		for _, x := range part {
			if p.next == nil && x == 255 {
				break
			}
			step := p.next
			if step == nil {
				step = plainCode
			}
			if e := step(&p, x); e != 0 {
				return nil, e
			}
		}
		if p.next != nil {
			return nil, 5
		}
	}
	return p.l, 0
}

// plainFind is the place of the first option of a code, or -1.
func plainFind(l []api.Option, code int) int {
	for i := range l {
		if l[i].Code == code {
			return i
		}
	}
	return -1
}

func same(x, y []api.Option) bool {
	if len(x) != len(y) {
		return false
	}
	for i := range x {
		if x[i].Code != y[i].Code || !bytes.Equal(x[i].Data, y[i].Data) {
			return false
		}
	}
	return true
}

func copied(l []api.Option) []api.Option {
	var c []api.Option
	for _, o := range l {
		c = append(c, opt(o.Code, bytes.Clone(o.Data)...))
	}
	return c
}

func checkLaid(t *testing.T, l []api.Option, room int, want []byte) {
	t.Helper()
	if b, e := option.Pack(l, room); e != api.OK || !bytes.Equal(b, want) {
		t.Errorf("Pack(%v, %d): % x, %d, want % x", l, room, b, e, want)
	}
}

// checkUnlaid: an error, beside which there are no bytes.
func checkUnlaid(t *testing.T, l []api.Option, room int, err api.Errno) {
	t.Helper()
	if b, e := option.Pack(l, room); e != err || len(b) != 0 {
		t.Errorf("Pack(%d options, %d): % x, %d, want none, %d", len(l), room, b, e, err)
	}
}

// checkPack holds Pack against what the chapter says of this list and room, whichever they are.
func checkPack(t *testing.T, l []api.Option, room int) {
	t.Helper()
	if err := plainUnlaid(l, room); err != 0 {
		checkUnlaid(t, l, room, err)
	} else {
		checkLaid(t, l, room, plainBytes(l))
	}
}

// checkRooms asks for the room that is wanted, and for what stands beside it.
func checkRooms(t *testing.T, l []api.Option) {
	t.Helper()
	n := len(plainBytes(l))
	for _, room := range []int{math.MinInt, -n, -1, 0, 1, n / 2, n - 2, n - 1, n, n + 1, 2 * n, math.MaxInt} {
		checkPack(t, l, room)
	}
}

func checkRead(t *testing.T, want []api.Option, parts ...[]byte) {
	t.Helper()
	if l, e := option.Parse(parts...); e != api.OK || !same(l, want) {
		t.Errorf("Parse(% x): %v, %d, want %v", parts, l, e, want)
	}
}

// checkUnread: an error, beside which there are no options.
func checkUnread(t *testing.T, err api.Errno, parts ...[]byte) {
	t.Helper()
	if l, e := option.Parse(parts...); e != err || len(l) != 0 {
		t.Errorf("Parse(% x): %v, %d, want none, %d", parts, l, e, err)
	}
}

// checkParse holds Parse against what the chapter says of these parts, whichever they are.
func checkParse(t *testing.T, parts ...[]byte) {
	t.Helper()
	if want, err := plainRead(parts...); err != 0 {
		checkUnread(t, err, parts...)
	} else {
		checkRead(t, want, parts...)
	}
}

// checkAsked holds Find, Number and Small against what the chapter says of this list and code.
func checkAsked(t *testing.T, l []api.Option, code int) {
	t.Helper()
	i := plainFind(l, code)
	var data []byte
	if i >= 0 {
		data = l[i].Data
	}
	if b, ok := option.Find(l, code); ok != (i >= 0) || !bytes.Equal(b, data) {
		t.Errorf("Find(%v, %d): % x, %v, want % x", l, code, b, ok, data)
	}
	number, small := uint32(0), 0
	if len(data) == 4 {
		number = uint32(data[0])*0x1000000 + uint32(data[1])*0x10000 + uint32(data[2])*256 + uint32(data[3])
	}
	if n, ok := option.Number(l, code); ok != (len(data) == 4) || n != number {
		t.Errorf("Number(%v, %d): %d, %v, want %d", l, code, n, ok, number)
	}
	if len(data) == 1 {
		small = int(data[0])
	}
	if n, ok := option.Small(l, code); ok != (len(data) == 1) || n != small {
		t.Errorf("Small(%v, %d): %d, %v, want %d", l, code, n, ok, small)
	}
}
