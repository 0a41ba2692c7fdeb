package option_test

import (
	"bytes"
	"slices"
	"testing"

	"slipway/api"
	"slipway/option"
)

// TestParseExamples: P15.2, the chapter's table.
func TestParseExamples(t *testing.T) {
	long := bytes.Repeat([]byte{0x61}, 256)
	b, _ := option.Pack(list(opt(67, long...)), 999)
	checkRead(t, list(opt(67, long...)), b)
	checkRead(t, list(opt(53, 1)), []byte{0x35, 1, 1, 0xff, 0x99})
	checkRead(t, list(opt(53, 1)), []byte{0, 0, 0x35, 1, 1})
	checkUnread(t, api.ErrShort, []byte{0x35})
	checkUnread(t, api.ErrShort, []byte{0x35, 2, 1})
	checkRead(t, nil)
	checkRead(t, nil, nil)
	checkRead(t, nil, []byte{0xff})
	checkRead(t, list(opt(53, 1), opt(7, 0x61, 0x62)), []byte{0x35, 1, 1, 7, 1, 0x61, 0xff}, []byte{7, 1, 0x62})
	checkUnread(t, api.ErrLong, plainBytes(row(1, 65, 1)))
	want := row(1, 64, 1)
	b = append(plainBytes(want)[:64*3], 1, 1, 9)
	want[0].Data = append(want[0].Data, 9)
	checkRead(t, want, b)
}

// TestParseOne: P15.2: every code, with every number of bytes behind it, alone in its part.
func TestParseOne(t *testing.T) {
	data := someData(255)
	for code := 1; code <= 254; code++ {
		for n := range 256 {
			b := append([]byte{byte(code), byte(n)}, data[:n]...)
			checkRead(t, list(opt(code, data[:n]...)), b)
			checkRead(t, list(opt(code, data[:n]...)), append(b, 255))
		}
	}
}

// TestParseCut: P15.2: a part that ends at a code, at a number or within an option's bytes is ErrShort, be there parts behind it or not; one that ends behind an option is not.
func TestParseCut(t *testing.T) {
	for _, n := range []int{0, 1, 2, 3, 254, 255} {
		laid := append([]byte{53, byte(n)}, bytes.Repeat([]byte{255}, n)...)
		ahead := []byte{0, 7, 1, 0x61, 0}
		for cut := range laid {
			part := slices.Concat(ahead, laid[:cut])
			if cut == 0 {
				checkRead(t, list(opt(7, 0x61)), part)
				continue
			}
			checkUnread(t, api.ErrShort, laid[:cut])
			checkUnread(t, api.ErrShort, part)
			checkUnread(t, api.ErrShort, part, laid[cut:])
			checkUnread(t, api.ErrShort, part, nil)
			checkUnread(t, api.ErrShort, part, []byte{255})
			checkUnread(t, api.ErrShort, []byte{255}, part)
			checkUnread(t, api.ErrShort, nil, ahead, part, plainBytes(row(1, 100, 0)))
		}
		checkRead(t, list(opt(7, 0x61), opt(53, laid[2:]...)), slices.Concat(ahead, laid))
	}
}

// TestParseCapacity: P15.2: what lies behind a part in its memory is not the part's.
func TestParseCapacity(t *testing.T) {
	room := []byte{7, 3, 1, 2, 3, 8, 1, 9, 255}
	for n := range room {
		part := room[:n]
		switch n {
		case 0:
			checkRead(t, nil, part)
		case 5:
			checkRead(t, list(opt(7, 1, 2, 3)), part)
		case 8:
			checkRead(t, list(opt(7, 1, 2, 3), opt(8, 9)), part)
		default:
			checkUnread(t, api.ErrShort, part)
		}
	}
}

// TestParsePads: P15.2: zeros are passed over between options, however many there are; within an option they are its own.
func TestParsePads(t *testing.T) {
	want := list(opt(7, 0, 0), opt(8), opt(9, 1))
	for _, n := range []int{0, 1, 2, 3, 100, 1000} {
		pads := make([]byte, n)
		checkRead(t, nil, pads)
		checkRead(t, nil, pads, pads)
		checkRead(t, want, slices.Concat(pads, []byte{7, 2, 0, 0}, pads, []byte{8, 0}, pads, []byte{9, 1, 1}, pads))
		checkRead(t, want, slices.Concat(pads, []byte{7, 2, 0, 0}, pads, []byte{8, 0}, pads, []byte{9, 1, 1}, pads, []byte{255}, pads))
		checkRead(t, want, pads, []byte{7, 2, 0, 0}, pads, []byte{8, 0, 255}, pads, []byte{9, 1, 1}, pads)
		checkUnread(t, api.ErrShort, append(pads, 7))
		checkUnread(t, api.ErrShort, append(pads, 7, 2, 0))
	}
}

// TestParseEnds: P15.2: what stands behind a part's end is not looked at, whatever it is; the next part is; an end within an option is its own byte or its number.
func TestParseEnds(t *testing.T) {
	for _, junk := range [][]byte{nil, {255}, {0}, {7}, {7, 200}, {7, 1, 9}, {8, 1, 9}, {7, 1}, plainBytes(row(1, 100, 2))} {
		checkRead(t, nil, append([]byte{255}, junk...))
		checkRead(t, nil, append([]byte{0, 255}, junk...))
		checkRead(t, list(opt(7, 1)), append([]byte{7, 1, 1, 255}, junk...))
		checkRead(t, list(opt(7, 1, 2)), append([]byte{7, 1, 1, 255}, junk...), append([]byte{7, 1, 2, 255}, junk...))
		checkRead(t, list(opt(8, 1), opt(7, 2)), append([]byte{8, 1, 1, 0, 255}, junk...), append([]byte{255}, junk...), append([]byte{7, 1, 2, 255}, junk...))
	}
	for x := range 256 {
		checkRead(t, nil, []byte{255, byte(x)})
		checkRead(t, list(opt(7)), []byte{7, 0, 255, byte(x)})
	}
	checkRead(t, list(opt(7, 255, 0, 255)), []byte{7, 3, 255, 0, 255})
	full := bytes.Repeat([]byte{255}, 257)
	full[0] = 7
	checkRead(t, list(opt(7, full[2:]...)), full)
	checkUnread(t, api.ErrShort, full[:256])
	checkUnread(t, api.ErrShort, []byte{7, 255})
}

// TestParseParts: P15.2: no parts, parts of no bytes, between others and alone.
func TestParseParts(t *testing.T) {
	checkRead(t, nil)
	checkRead(t, nil, nil)
	checkRead(t, nil, []byte{})
	checkRead(t, nil, nil, []byte{}, nil)
	checkRead(t, list(opt(7, 1)), nil, []byte{7, 1, 1}, nil)
	checkRead(t, list(opt(7, 1), opt(8)), nil, []byte{7, 1, 1}, []byte{}, []byte{255}, nil, []byte{8, 0})
	checkRead(t, list(opt(7, 1), opt(8)), [][]byte{{7, 1, 1}, {8, 0}}...)
	parts := slices.Repeat([][]byte{{7, 1, 9}, nil, {255, 7}}, 1000)
	checkRead(t, list(opt(7, bytes.Repeat([]byte{9}, 1000)...)), parts...)
}

// TestParseAgain: P15.2: the bytes of a code that comes again are laid behind those that it has; it stands where it came first.
func TestParseAgain(t *testing.T) {
	checkRead(t, list(opt(9, 1, 2), opt(7, 3)), []byte{9, 1, 1, 7, 1, 3, 9, 1, 2})
	checkRead(t, list(opt(9, 1, 2), opt(7, 3)), []byte{9, 1, 1, 7, 1, 3}, []byte{9, 1, 2})
	checkRead(t, list(opt(9, 1, 2, 5), opt(7, 3, 4)), []byte{9, 1, 1, 7, 1, 3, 9, 1, 2, 255}, []byte{7, 1, 4, 9, 1, 5})
	checkRead(t, list(opt(9, 1)), []byte{9, 0, 9, 1, 1, 9, 0})
	checkRead(t, list(opt(9), opt(7)), []byte{9, 0, 7, 0, 9, 0}, []byte{7, 0})
	checkRead(t, list(opt(9), opt(7, 1)), []byte{9, 0, 7, 0, 9, 0}, []byte{7, 1, 1})
	for code := 1; code <= 254; code++ {
		b := byte(code)
		checkRead(t, list(opt(code, 1, 2, 3)), []byte{b, 1, 1, b, 2, 2, 3})
		checkRead(t, list(opt(code, 1, 2, 3)), []byte{b, 1, 1}, []byte{b, 0, b, 2, 2, 3, 255, b})
	}
	for _, n := range edgeLengths() {
		data, b := someData(n), []byte{}
		for _, x := range data {
			b = append(b, 67, 1, x)
		}
		if n > 0 {
			checkRead(t, list(opt(67, data...)), b)
		}
		checkRead(t, list(opt(67, data...)), plainBytes(list(opt(67, data...))))
	}
}

// TestParseCounts: P15.2: 64 codes are taken, a 65th one is ErrLong, in whichever part it comes, whatever codes they are.
func TestParseCounts(t *testing.T) {
	for many := range 255 {
		for _, length := range []int{0, 1, 3} {
			l := row(1, many, length)
			b := plainBytes(l)
			b = b[:len(b)-1]
			var parts [][]byte
			for at := 0; at < len(b); at += 2 + length {
				parts = append(parts, b[at:at+2+length])
			}
			if many <= 64 {
				checkRead(t, l, b)
				checkRead(t, l, parts...)
			} else {
				checkUnread(t, api.ErrLong, b)
				checkUnread(t, api.ErrLong, parts...)
			}
		}
	}
	for first := 1; first <= 190; first++ {
		b := plainBytes(row(first, 65, 1))
		checkRead(t, row(first, 64, 1), b[:64*3])
		checkUnread(t, api.ErrLong, b)
		checkUnread(t, api.ErrLong, slices.Concat(b[3*30:65*3], b[:3*30]))
	}
}

// TestParseBehindMost: P15.2: behind 64 codes each one that came already is taken, and each other one is not.
func TestParseBehindMost(t *testing.T) {
	for _, first := range []int{1, 2, 100, 190, 191} {
		l := row(first, 64, 2)
		b := plainBytes(l)
		b = b[:len(b)-1]
		for code := 1; code <= 254; code++ {
			one := []byte{byte(code), 1, 9}
			if i := plainFind(l, code); i >= 0 {
				want := copied(l)
				want[i].Data = append(want[i].Data, 9)
				checkRead(t, want, slices.Concat(b, one))
				checkRead(t, want, b, one)
				checkUnread(t, api.ErrShort, b, one[:2])
				checkUnread(t, api.ErrShort, slices.Concat(b, one[:1]))
			} else {
				checkUnread(t, api.ErrLong, slices.Concat(b, one))
				checkUnread(t, api.ErrLong, append(bytes.Clone(b), 255), one)
			}
		}
		checkRead(t, l, slices.Concat(b, []byte{0, 0, 255, 255}), []byte{0, 255}, nil)
	}
}

// TestParseErrorOrder: P15.2: of both errors the one that is met first: a code too many is met ahead of its number and its bytes, and behind all that stands ahead of it.
func TestParseErrorOrder(t *testing.T) {
	b := plainBytes(row(1, 64, 1))
	b = b[:len(b)-1]
	for _, cut := range [][]byte{{65}, {65, 0}, {65, 1}, {65, 200, 1}, {254}, {0, 65}, {65, 0, 1}} {
		checkUnread(t, api.ErrLong, slices.Concat(b, cut))
		checkUnread(t, api.ErrLong, b, cut)
		checkUnread(t, api.ErrLong, b, cut, []byte{1})
	}
	for _, cut := range [][]byte{{1}, {64, 1}, {64, 3, 65, 65}, {0, 1, 255}} {
		checkUnread(t, api.ErrShort, slices.Concat(b, cut))
		checkUnread(t, api.ErrShort, b, cut, []byte{65, 0})
		checkUnread(t, api.ErrLong, b, []byte{65, 0}, cut)
	}
	checkUnread(t, api.ErrShort, []byte{1}, plainBytes(row(1, 65, 0)))
	checkUnread(t, api.ErrShort, plainBytes(row(1, 64, 0)), []byte{1, 2, 65}, []byte{65, 0})
	checkUnread(t, api.ErrShort, append(bytes.Clone(b[:63*3]), 64))
	checkUnread(t, api.ErrShort, append(bytes.Clone(b[:63*3]), 64, 3, 65, 66))
}

// TestParseLong: P15.2: a great many pieces of one code, and a great many of many codes.
func TestParseLong(t *testing.T) {
	piece := append([]byte{67, 255}, someData(255)...)
	checkRead(t, list(opt(67, bytes.Repeat(piece[2:], 2000)...)), bytes.Repeat(piece, 2000))
	b := plainBytes(row(1, 64, 1))
	want := row(1, 64, 1)
	for i := range want {
		want[i].Data = bytes.Repeat(want[i].Data, 3000)
	}
	checkRead(t, want, bytes.Repeat(b[:64*3], 3000))
	checkRead(t, list(opt(7)), bytes.Repeat([]byte{7, 0}, 100000))
}

// TestParseAny: P15.2, bytes of all kinds, in parts of all kinds: any at all, and such of few codes and short lengths.
func TestParseAny(t *testing.T) {
	r := draws()
	few := []byte{0, 0, 1, 1, 2, 3, 53, 254, 255}
	for i := range 100000 {
		var parts [][]byte
		for range r.IntN(4) {
			b := someBytes(r, r.IntN(40))
			if i%3 > 0 {
				for k := range b {
					b[k] = few[r.IntN(len(few)-i%2)]
				}
			}
			parts = append(parts, b)
		}
		checkParse(t, parts...)
	}
}

// TestParseAnyOptions: P15.2, options of all kinds, now and then with a byte turned or with an end that is missing, so that all errors come.
func TestParseAnyOptions(t *testing.T) {
	r := draws()
	for i := range 8000 {
		var parts [][]byte
		for range 1 + r.IntN(3) {
			b := plainBytes(someList(r, r.IntN(40)))
			if i%4 == 1 {
				b = b[:r.IntN(len(b)+1)]
			}
			if i%4 == 2 && len(b) > 0 {
				b[r.IntN(len(b))] += byte(r.IntN(3))
			}
			parts = append(parts, b)
		}
		checkParse(t, parts...)
	}
}
