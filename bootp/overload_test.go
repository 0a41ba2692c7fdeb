package bootp_test

import (
	"bytes"
	"slices"
	"testing"

	"slipway/api"
	"slipway/bootp"
)

// overloaded is the chapter's message with these options, and with others in File's and in Sname's room.
func overloaded(options, file, sname []byte) []byte {
	return put(put(withOptions(bare(), options...), 108, file...), 44, sname...)
}

// wanted is the chapter's message with other options and texts.
func wanted(file, sname string, l ...api.Option) api.Bootp {
	m := chapterMessage()
	m.File, m.Sname, m.Options = file, sname, l
	return m
}

// TestOverloadExamples: P16.2, the chapter's table.
func TestOverloadExamples(t *testing.T) {
	offer := overloaded([]byte{0x34, 1, 1, 0xff}, []byte{0x35, 1, 2, 0xff}, nil)
	checkTaken(t, offer, wanted("", "", opt(53, 2)))
	if m, _ := bootp.Decode(offer); bootp.Type(m) != api.Offer {
		t.Errorf("Type: %d", bootp.Type(m))
	}
	both := overloaded([]byte{0x34, 1, 3, 0xff}, []byte{0x43, 1, 0x61, 0xff}, []byte{0x43, 1, 0x62, 0xff})
	checkTaken(t, both, wanted("", "", opt(67, 'a', 'b')))
	checkRefused(t, put(both, 242, 4), api.ErrBoth)
}

// TestOverloadValues: P16.2: of all bytes 1, 2 and 3 are taken: File holds options by 1 and 3, Sname by 2 and 3; it is not told itself.
func TestOverloadValues(t *testing.T) {
	for x := range 256 {
		b := overloaded([]byte{53, 1, 5, 52, 1, byte(x), 54, 0}, []byte{7, 1, 'f', 255}, []byte{8, 1, 's', 255})
		switch x {
		case 1:
			checkTaken(t, b, wanted("", "\x08\x01s\xff", opt(53, 5), opt(54), opt(7, 'f')))
		case 2:
			checkTaken(t, b, wanted("\x07\x01f\xff", "", opt(53, 5), opt(54), opt(8, 's')))
		case 3:
			checkTaken(t, b, wanted("", "", opt(53, 5), opt(54), opt(7, 'f'), opt(8, 's')))
		default:
			checkRefused(t, b, api.ErrBoth)
		}
	}
}

// TestOverloadLengths: P16.2: its Data is just one byte; pieces of it are put together first.
func TestOverloadLengths(t *testing.T) {
	file, sname := []byte{7, 1, 'f'}, []byte{8, 1, 's'}
	for _, x := range [][]byte{{52, 0}, {52, 2, 1, 1}, {52, 2, 0, 1}, {52, 2, 1, 0}, {52, 3, 1, 2, 3}, {52, 4, 0, 0, 0, 1}, {52, 0, 52, 0}, {52, 1, 1, 52, 1, 1}, {52, 1, 1, 52, 1, 2}, {52, 1, 1, 0, 53, 1, 1, 52, 1, 0}, {52, 1, 0, 52, 1, 1}} {
		checkRefused(t, overloaded(x, file, sname), api.ErrBoth)
		checkRefused(t, overloaded(append(x, 255), file, sname), api.ErrBoth)
	}
	for _, x := range [][]byte{{52, 1, 3}, {52, 1, 3, 255}, {52, 0, 52, 1, 3}, {52, 1, 3, 52, 0}, {52, 0, 0, 52, 0, 52, 1, 3, 52, 0, 255}} {
		checkTaken(t, overloaded(x, file, sname), wanted("", "", opt(7, 'f'), opt(8, 's')))
	}
	checkTaken(t, overloaded([]byte{52, 1, 1, 9, 0, 52, 0}, file, nil), wanted("", "", opt(9), opt(7, 'f')))
	checkTaken(t, overloaded([]byte{52, 1, 1, 255, 52, 1, 1}, file, nil), wanted("", "", opt(7, 'f')))
	for _, n := range []int{254, 255, 256, 257, 1000} {
		checkRefused(t, withOptions(bare(), plainOptions(list(opt(52, bytes.Repeat([]byte{1}, n)...)))...), api.ErrBoth)
	}
}

// TestOverloadBehindEnd: P16.2: an overload behind the end is none.
func TestOverloadBehindEnd(t *testing.T) {
	b := overloaded([]byte{53, 1, 1, 255, 52, 1, 3}, []byte("file"), []byte("name"))
	checkTaken(t, b, wanted("file", "name", opt(53, 1)))
	checkTaken(t, put(b, 246, 9), wanted("file", "name", opt(53, 1)))
}

// TestOverloadRooms: P16.2: File's 128 bytes and Sname's 64 are options to their last byte, with an end and without.
func TestOverloadRooms(t *testing.T) {
	whole := func(n int) []byte { return append([]byte{7, byte(n - 2)}, bytes.Repeat([]byte{'x'}, n-2)...) }
	data := func(n int) []byte { return bytes.Repeat([]byte{'x'}, n-2) }
	checkTaken(t, overloaded([]byte{52, 1, 1}, whole(128), []byte("name")), wanted("", "name", opt(7, data(128)...)))
	checkTaken(t, overloaded([]byte{52, 1, 2}, []byte("file"), whole(64)), wanted("file", "", opt(7, data(64)...)))
	checkTaken(t, overloaded([]byte{52, 1, 3}, whole(128), whole(64)), wanted("", "", opt(7, append(data(128), data(64)...)...)))
	for n := 2; n <= 128; n++ {
		checkTaken(t, overloaded([]byte{52, 1, 1, 255}, whole(n), nil), wanted("", "", opt(7, data(n)...)))
		if n < 128 {
			ended := append(whole(n), 255)
			ended = append(ended, bytes.Repeat([]byte{9}, 128-len(ended))...)
			checkTaken(t, overloaded([]byte{52, 1, 1, 255}, ended, nil), wanted("", "", opt(7, data(n)...)))
		}
	}
	for n := 2; n < 64; n++ {
		ended := append(whole(n), 255)
		ended = append(ended, bytes.Repeat([]byte{9}, 64-len(ended))...)
		checkTaken(t, overloaded([]byte{52, 1, 2, 255}, nil, ended), wanted("", "", opt(7, data(n)...)))
	}
	checkTaken(t, overloaded([]byte{52, 1, 3}, nil, nil), wanted("", ""))
	checkTaken(t, overloaded([]byte{52, 1, 3}, []byte{255, 7}, []byte{255, 7}), wanted("", ""))
}

// TestOverloadShortRooms: P16.2: an option that doesn't end within its room is ErrShort: it doesn't go on in the next one.
func TestOverloadShortRooms(t *testing.T) {
	for _, room := range []struct {
		over     byte
		at, many int
	}{{1, 108, 128}, {3, 108, 128}, {2, 44, 64}, {3, 44, 64}} {
		b := withOptions(bare(), 52, 1, room.over, 255)
		checkRefused(t, put(b, room.at, 7, byte(room.many-1)), api.ErrShort)
		checkRefused(t, put(b, room.at, 7, 255), api.ErrShort)
		checkRefused(t, put(b, room.at+room.many-1, 7), api.ErrShort)
		checkRefused(t, put(b, room.at+room.many-2, 7, 1), api.ErrShort)
		checkTaken(t, put(b, room.at+room.many-2, 7, 0), wanted("", "", opt(7)))
		checkTaken(t, put(b, room.at+room.many-3, 7, 1, 9), wanted("", "", opt(7, 9)))
		checkTaken(t, put(b, room.at+room.many-2, 255, 7), wanted("", ""))
	}
	text := put(withOptions(bare(), 52, 1, 2, 255), 108, 7, 255)
	checkTaken(t, text, wanted("\x07\xff", ""))
	text = put(withOptions(bare(), 52, 1, 1, 255), 44, 7, 255)
	checkTaken(t, text, wanted("", "\x07\xff"))
}

// TestOverloadGoesOn: P16.2: a code's bytes are put together over the rooms, in the order behind 240, File, Sname.
func TestOverloadGoesOn(t *testing.T) {
	checkTaken(t, overloaded([]byte{67, 1, 'a', 52, 1, 3, 53, 1, 5, 255}, []byte{9, 0, 67, 2, 'b', 'c', 255}, []byte{10, 1, 1, 67, 1, 'd'}), wanted("", "", opt(67, 'a', 'b', 'c', 'd'), opt(53, 5), opt(9), opt(10, 1)))
	checkTaken(t, overloaded([]byte{52, 1, 3}, []byte{1, 1, 1, 2, 1, 2}, []byte{2, 1, 3, 1, 1, 4, 3, 0}), wanted("", "", opt(1, 1, 4), opt(2, 2, 3), opt(3)))
	checkTaken(t, overloaded([]byte{67, 1, 'a', 52, 1, 2}, []byte{67, 1, 'b'}, []byte{67, 1, 'c'}), wanted("C\x01b", "", opt(67, 'a', 'c')))
	checkTaken(t, overloaded([]byte{53, 1, 5, 52, 1, 1}, []byte{53, 1, 6}, []byte{53, 1, 7}), wanted("", "5\x01\x07", opt(53, 5, 6)))
}

// TestOverloadInRooms: P16.2: an overload that stands in a room says nothing; where the room holds options it isn't told either.
func TestOverloadInRooms(t *testing.T) {
	checkTaken(t, overloaded([]byte{53, 1, 1}, []byte{52, 1, 3}, []byte{52, 1, 3}), wanted("4\x01\x03", "4\x01\x03", opt(53, 1)))
	for _, x := range [][]byte{{52, 0}, {52, 1, 2}, {52, 1, 3}, {52, 1, 9}, {52, 3, 1, 2, 3}} {
		checkTaken(t, overloaded([]byte{52, 1, 1}, slices.Concat(x, []byte{7, 1, 'f'}), []byte("name")), wanted("", "name", opt(7, 'f')))
		checkTaken(t, overloaded([]byte{52, 1, 2}, []byte("file"), slices.Concat([]byte{7, 1, 's'}, x)), wanted("file", "", opt(7, 's')))
		checkTaken(t, overloaded([]byte{52, 1, 3}, x, slices.Concat(x, []byte{7, 1, 's'})), wanted("", "", opt(7, 's')))
	}
	checkRefused(t, overloaded([]byte{52, 1, 1}, []byte{52, 200}, nil), api.ErrShort)
}

// TestOverloadTooMany: P16.2: too many codes over the rooms together are ErrLong; the overload is one of the 64, though it isn't told.
func TestOverloadTooMany(t *testing.T) {
	packed := func(l []api.Option) []byte { b := plainOptions(l); return b[:len(b)-1] }
	behind := append([]byte{52, 1, 3}, packed(row(60, 50, 1))...)
	checkTaken(t, overloaded(behind, packed(row(110, 13, 1)), nil), wanted("", "", slices.Concat(row(60, 50, 1), row(110, 13, 1))...))
	checkRefused(t, overloaded(behind, packed(row(110, 14, 1)), nil), api.ErrLong)
	checkTaken(t, overloaded(behind, nil, packed(row(110, 13, 1))), wanted("", "", slices.Concat(row(60, 50, 1), row(110, 13, 1))...))
	checkRefused(t, overloaded(behind, nil, packed(row(110, 14, 1))), api.ErrLong)
	checkTaken(t, overloaded(behind, packed(row(110, 7, 1)), packed(row(130, 6, 1))), wanted("", "", slices.Concat(row(60, 50, 1), row(110, 7, 1), row(130, 6, 1))...))
	checkRefused(t, overloaded(behind, packed(row(110, 7, 1)), packed(row(130, 7, 1))), api.ErrLong)
	full := append([]byte{52, 1, 1}, packed(row(60, 63, 1))...)
	checkTaken(t, overloaded(full, nil, []byte("name")), wanted("", "name", row(60, 63, 1)...))
	checkTaken(t, overloaded(full, []byte{52, 1, 9, 60, 0}, nil), wanted("", "", row(60, 63, 1)...))
	checkRefused(t, overloaded(full, []byte{7, 0}, nil), api.ErrLong)
	checkTaken(t, overloaded(full, nil, []byte{7, 0}), wanted("", "\x07", row(60, 63, 1)...))
	checkTaken(t, withOptions(bare(), packed(row(60, 64, 1))...), wanted("", "", row(60, 64, 1)...))
}

// TestOverloadErrorPlaces: P16.2: of errors in several rooms the one that is met first is told.
func TestOverloadErrorPlaces(t *testing.T) {
	packed := func(l []api.Option) []byte { b := plainOptions(l); return b[:len(b)-1] }
	full := append([]byte{52, 1, 3}, packed(row(60, 63, 1))...)
	checkRefused(t, overloaded(full, []byte{60, 255}, []byte{7, 0}), api.ErrShort)
	checkRefused(t, overloaded(full, []byte{7, 0}, []byte{60, 255}), api.ErrLong)
	checkRefused(t, overloaded(full, []byte{60, 0, 7, 255}, nil), api.ErrLong)
	checkRefused(t, overloaded(full, []byte{60, 255, 7, 0}, nil), api.ErrShort)
	checkRefused(t, overloaded(full, nil, []byte{60, 64, 7, 0}), api.ErrShort)
	checkRefused(t, overloaded(append(full, 60), []byte{7, 0}, nil), api.ErrShort)
}

// TestOverloadAny: P16.2: options of all kinds in all rooms.
func TestOverloadAny(t *testing.T) {
	r := draws()
	many := map[api.Errno]int{}
	for range 20000 {
		options := append([]byte{52, 1, byte(r.IntN(5))}, plainOptions(someOptions(r, r.IntN(20)))...)
		if r.IntN(20) == 0 {
			options = append([]byte{52, 1, 3}, plainOptions(row(60, 63, 1))...)
		}
		file := plainOptions(someOptions(r, r.IntN(40)))
		sname := plainOptions(someOptions(r, r.IntN(20)))
		file, sname = file[:min(len(file)-r.IntN(2), 128)], sname[:min(len(sname)-r.IntN(2), 64)]
		many[checkDecode(t, overloaded(options, file, sname))]++
	}
	for _, e := range []api.Errno{api.OK, api.ErrShort, api.ErrBoth, api.ErrLong} {
		if many[e] < 300 {
			t.Errorf("how often each error came: %v", many)
		}
	}
}
