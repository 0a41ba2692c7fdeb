package option_test

import (
	"bytes"
	"math"
	"slices"
	"testing"

	"slipway/api"
	"slipway/option"
)

// TestErrorNumbers: the section Errors.
func TestErrorNumbers(t *testing.T) {
	var got []api.Errno
	for _, l := range [][]api.Option{row(1, 65, 0), list(opt(0)), list(opt(7))} {
		_, e := option.Pack(l, 999)
		got = append(got, e)
	}
	for _, b := range [][]byte{plainBytes(row(1, 65, 0)), {7}, {7, 0}} {
		_, e := option.Parse(b)
		got = append(got, e)
	}
	if want := []api.Errno{2, 150, 0, 2, 5, 0}; !slices.Equal(got, want) {
		t.Errorf("errors %v, want %v", got, want)
	}
}

// TestPackExamples: P15.1, the chapter's table.
func TestPackExamples(t *testing.T) {
	two := list(opt(53, 1), opt(50, 0x0a, 0, 0, 5))
	checkLaid(t, two, 10, []byte{0x35, 1, 1, 0x32, 4, 0x0a, 0, 0, 5, 0xff})
	checkUnlaid(t, two, 9, api.ErrLong)
	checkUnlaid(t, list(opt(53, 1), opt(53, 0x0a, 0, 0, 5)), 10, api.ErrOption)
	checkUnlaid(t, list(opt(0, 1), opt(50, 0x0a, 0, 0, 5)), 10, api.ErrOption)
	checkUnlaid(t, list(opt(255, 1), opt(50, 0x0a, 0, 0, 5)), 10, api.ErrOption)
	checkLaid(t, nil, 1, []byte{0xff})
	checkUnlaid(t, nil, 0, api.ErrLong)
	checkLaid(t, list(opt(7)), 3, []byte{7, 0, 0xff})
	long := bytes.Repeat([]byte{0x61}, 256)
	want := append([]byte{0x43, 0xff}, long[:255]...)
	want = append(want, 0x43, 1, 0x61, 0xff)
	if len(want) != 261 {
		t.Fatal("the example has 261 bytes")
	}
	checkLaid(t, list(opt(67, long...)), 999, want)
}

// TestPackCodes: P15.1: the codes 1 to 254 are laid, all others are ErrOption, wherever in the list they stand.
func TestPackCodes(t *testing.T) {
	codes := strangeCodes()
	for code := -600; code < 900; code++ {
		codes = append(codes, code)
	}
	for _, code := range codes {
		for _, l := range [][]api.Option{list(opt(code)), list(opt(code, 1, 2)), list(opt(code, 3), opt(301-code)), list(opt(301-code), opt(code, 3))} {
			within := true
			for _, o := range l {
				within = within && o.Code >= 1 && o.Code <= 254
			}
			if within {
				checkLaid(t, l, 99, plainBytes(l))
			} else {
				checkUnlaid(t, l, 99, api.ErrOption)
			}
		}
	}
	for at := range 64 {
		for _, code := range strangeCodes() {
			l := row(100, 64, 1)
			l[at].Code = code
			checkUnlaid(t, l, 999, api.ErrOption)
		}
	}
}

// TestPackTwice: P15.1: a code that stands twice is ErrOption, whichever it is, wherever both stand, and whatever Data they have.
func TestPackTwice(t *testing.T) {
	for code := 1; code <= 254; code++ {
		checkUnlaid(t, list(opt(code), opt(code)), 99, api.ErrOption)
		checkUnlaid(t, list(opt(code, 1), opt(code, 1)), 99, api.ErrOption)
		checkUnlaid(t, list(opt(code, 1), opt(code%254+1), opt(code, 2)), 99, api.ErrOption)
		checkUnlaid(t, list(opt(code), opt(code, 2), opt(code, 3)), 99, api.ErrOption)
		checkLaid(t, list(opt(code), opt(code%254+1)), 99, []byte{byte(code), 0, byte(code%254 + 1), 0, 255})
	}
	for i := range 64 {
		for j := range i {
			l := row(50, 64, 0)
			l[i].Code = l[j].Code
			checkUnlaid(t, l, 999, api.ErrOption)
		}
	}
}

// TestPackOrder: P15.1: the options stand in the list's order, not in that of their codes.
func TestPackOrder(t *testing.T) {
	checkLaid(t, list(opt(254, 1), opt(1, 2), opt(128), opt(53, 4, 5)), 14, []byte{254, 1, 1, 1, 1, 2, 128, 0, 53, 2, 4, 5, 255})
	checkLaid(t, list(opt(53, 4, 5), opt(128), opt(1, 2), opt(254, 1)), 14, []byte{53, 2, 4, 5, 128, 0, 1, 1, 2, 254, 1, 1, 255})
}

// TestPackCounts: P15.1: up to 64 options are laid, more are ErrLong, as many as there are codes with them; still more can't be of unlike codes.
func TestPackCounts(t *testing.T) {
	checkLaid(t, nil, 1, []byte{255})
	checkLaid(t, []api.Option{}, 1, []byte{255})
	for many := range 255 {
		for _, length := range []int{0, 1, 3} {
			l := row(1, many, length)
			if many <= 64 {
				checkLaid(t, l, many*(2+length)+1, plainBytes(l))
				checkUnlaid(t, l, many*(2+length), api.ErrLong)
			} else {
				checkUnlaid(t, l, math.MaxInt, api.ErrLong)
				checkUnlaid(t, l, many*(2+length)+1, api.ErrLong)
			}
		}
	}
	checkUnlaid(t, row(1, 255, 0), 9999, api.ErrOption)
	checkUnlaid(t, append(row(1, 254, 0), row(1, 254, 0)...), 9999, api.ErrOption)
	checkUnlaid(t, slices.Repeat(row(1, 64, 0), 20000), math.MaxInt, api.ErrOption)
}

// TestPackLengths: P15.1: Data of all lengths is cut as the form has it, be it all alike or not, alone or between others.
func TestPackLengths(t *testing.T) {
	all := someData(3000)
	for n := range all {
		l := list(opt(9, all[:n]...))
		checkLaid(t, l, n+20+2*(n/255), plainBytes(l))
		l = list(opt(254, 7), opt(1, all[:n]...), opt(8))
		checkLaid(t, l, math.MaxInt, plainBytes(l))
		l = list(opt(67, bytes.Repeat([]byte{255}, n)...), opt(68, make([]byte, n)...))
		checkLaid(t, l, math.MaxInt, plainBytes(l))
	}
	for _, n := range []int{65534, 65535, 65536, 255 * 256, 255*256 + 1, 1 << 20} {
		l := list(opt(67, make([]byte, n)...))
		checkLaid(t, l, math.MaxInt, plainBytes(l))
		checkUnlaid(t, l, n, api.ErrLong)
	}
}

// TestPackPieces: P15.1: how many bytes come of 254, 255, 256, 510 and 511, and where the pieces' heads stand.
func TestPackPieces(t *testing.T) {
	for _, x := range []struct {
		n, total int
		heads    map[int][]byte
	}{
		{0, 3, map[int][]byte{0: {5, 0}}},
		{1, 4, map[int][]byte{0: {5, 1}}},
		{254, 257, map[int][]byte{0: {5, 254}}},
		{255, 258, map[int][]byte{0: {5, 255}}},
		{256, 261, map[int][]byte{0: {5, 255}, 257: {5, 1}}},
		{510, 515, map[int][]byte{0: {5, 255}, 257: {5, 255}}},
		{511, 518, map[int][]byte{0: {5, 255}, 257: {5, 255}, 514: {5, 1}}},
		{765, 772, map[int][]byte{0: {5, 255}, 257: {5, 255}, 514: {5, 255}}},
	} {
		b, e := option.Pack(list(opt(5, make([]byte, x.n)...)), x.total)
		if e != api.OK || len(b) != x.total || b[len(b)-1] != 255 {
			t.Errorf("Pack of %d bytes: %d bytes, %d, want %d", x.n, len(b), e, x.total)
			continue
		}
		for at, head := range x.heads {
			if !bytes.Equal(b[at:at+2], head) {
				t.Errorf("Pack of %d bytes: % x at %d, want % x", x.n, b[at:at+2], at, head)
			}
		}
		checkUnlaid(t, list(opt(5, make([]byte, x.n)...)), x.total-1, api.ErrLong)
	}
}

// TestPackRoom: P15.1: the room is that of all bytes, the end with them: one below what is wanted is ErrLong, 0 and below 0 always are.
func TestPackRoom(t *testing.T) {
	r := draws()
	checkRooms(t, nil)
	for _, n := range edgeLengths() {
		checkRooms(t, list(opt(3, someData(n)...)))
		checkRooms(t, list(opt(3, someData(n)...), opt(4)))
		checkRooms(t, list(opt(4, 1), opt(3, someData(n)...), opt(2, someData(n)...)))
	}
	for i := range 2000 {
		checkRooms(t, someList(r, i%65))
	}
	l := list(opt(1, 9), opt(2), opt(3, someData(300)...), opt(4, 1))
	for room := -20; room < 400; room++ {
		checkPack(t, l, room)
	}
}

// TestPackErrorOrder: P15.1 with R5: a wrong code and one that stands twice come ahead of too many options and of too little room.
func TestPackErrorOrder(t *testing.T) {
	for set := range 1 << 4 {
		for at := range 64 {
			l, room, want := row(101, 64, 1), 999, api.OK
			if set&1 != 0 {
				l, want = append(l, opt(1)), api.ErrLong
			}
			if set&2 != 0 {
				room, want = at-1, api.ErrLong
			}
			if set&4 != 0 {
				l[at].Code, want = 255, api.ErrOption
			}
			if set&8 != 0 {
				l[at].Code, want = l[(at+1)%64].Code, api.ErrOption
			}
			if want == api.OK {
				checkLaid(t, l, room, plainBytes(l))
			} else {
				checkUnlaid(t, l, room, want)
			}
		}
	}
	wrongBehind := append(row(1, 200, 9), opt(0))
	twiceBehind := append(row(1, 200, 9), opt(1))
	for _, room := range []int{math.MinInt, -1, 0, 1, 64, 9999} {
		checkUnlaid(t, wrongBehind, room, api.ErrOption)
		checkUnlaid(t, twiceBehind, room, api.ErrOption)
	}
}

// TestPackAny: P15.1, lists of all kinds, right ones and wrong ones.
func TestPackAny(t *testing.T) {
	r := draws()
	for i := range 8000 {
		l := someList(r, i%70)
		n := len(plainBytes(l))
		checkPack(t, l, n+r.IntN(5)-2)
		if len(l) > 0 {
			l[r.IntN(len(l))].Code = r.IntN(260) - 2
			checkPack(t, l, n+r.IntN(5)-2)
		}
	}
}
