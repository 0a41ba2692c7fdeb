package bootp_test

import (
	"bytes"
	"slices"
	"strings"
	"testing"

	"slipway/api"
	"slipway/bootp"
	"slipway/frame"
	"slipway/inet"
	"slipway/udp"
)

// checkThereAndBack: the message comes back, whatever is laid behind it.
func checkThereAndBack(t *testing.T, m api.Bootp, behind ...[]byte) {
	t.Helper()
	b, e := bootp.Encode(m)
	if e != api.OK || len(b) < 300 || len(b) > 1472 {
		t.Fatalf("Encode(%v): %d bytes, %d", m, len(b), e)
	}
	checkTaken(t, b, m)
	for _, x := range behind {
		checkTaken(t, slices.Concat(b, x), m)
	}
}

// laidBehind are such that options would be amiss with, or others.
func laidBehind() [][]byte {
	return [][]byte{{0}, {255}, {7}, {7, 200}, {7, 1, 9}, {52, 1, 9}, {52, 1, 3, 255}, plainOptions(row(1, 254, 1)), someData(300), make([]byte, 5000)}
}

// edgeMessages have the least and the greatest of all that can be laid.
func edgeMessages() []api.Bootp {
	texts := [][2]string{{"", ""}, {"s", "f"}, {strings.Repeat("s", 63), strings.Repeat("f", 127)}, {"\xff\x01", strings.Repeat("\xff", 127)}}
	options := [][]api.Option{nil, list(opt(1)), list(opt(254, 0, 255, 0)), row(60, 64, 0), list(opt(7, make([]byte, 56)...)), list(opt(7, make([]byte, 57)...)), list(opt(7, make([]byte, 58)...)), list(opt(53, 255), opt(7, bytes.Repeat([]byte{255}, 1218)...)), list(opt(7, make([]byte, 255)...), opt(8, make([]byte, 256)...))}
	var all []api.Bootp
	for _, text := range texts {
		for _, l := range options {
			all = append(all, api.Bootp{Op: 1, Sname: text[0], File: text[1], Options: l})
			all = append(all, api.Bootp{Op: 2, Hops: 255, Xid: 1<<32 - 1, Secs: 65535, All: true, Ci: 1<<32 - 1, Yi: 1<<32 - 1, Si: 1<<32 - 1, Gi: 1<<32 - 1, Mac: api.Mac{255, 255, 255, 255, 255, 255}, Sname: text[0], File: text[1], Options: l})
		}
	}
	return all
}

// TestDecodeOfEncode: P16.5: the message comes back, and with any bytes behind, too; there are 300 to 1472 of them.
func TestDecodeOfEncode(t *testing.T) {
	for _, m := range edgeMessages() {
		checkThereAndBack(t, m, laidBehind()...)
	}
	checkThereAndBack(t, chapterMessage(), laidBehind()...)
	checkThereAndBack(t, fullMessage(), laidBehind()...)
	r := draws()
	for range 10000 {
		checkThereAndBack(t, someMessage(r), someBytes(r, r.IntN(30)))
	}
	for n := range 1222 {
		m := chapterMessage()
		m.Options = list(opt(7, someBytes(r, n)...))
		checkThereAndBack(t, m, someBytes(r, 9))
	}
}

// checkBackAgain: what was taken is laid again so that the same is told, unless P16.6 says otherwise; it answers what Encode said.
func checkBackAgain(t *testing.T, b []byte) api.Errno {
	t.Helper()
	m, e := bootp.Decode(b)
	if e != api.OK {
		t.Fatalf("Decode(% x): %d", b, e)
	}
	want := api.OK
	if len(m.Sname) > 63 || len(m.File) > 127 || len(plainOptions(m.Options)) > 1232 {
		want = api.ErrLong
	}
	again, e := bootp.Encode(m)
	if e != want {
		t.Errorf("Encode of what Decode(% x) told: %d, want %d", b, e, want)
	}
	if e == api.OK {
		checkTaken(t, again, m)
	}
	return e
}

// TestEncodeOfDecode: P16.6: with options in any room, cut, padded, without an end.
func TestEncodeOfDecode(t *testing.T) {
	checkBackAgain(t, plainForm(chapterMessage()))
	checkBackAgain(t, bare())
	checkBackAgain(t, put(bare(), 10, 0x7f, 0xff))
	checkBackAgain(t, put(bare(), 34, bytes.Repeat([]byte{9}, 10)...))
	checkBackAgain(t, overloaded([]byte{52, 1, 3, 67, 1, 'a'}, []byte{67, 1, 'b', 52, 1, 7}, []byte{67, 1, 'c', 9, 0}))
	r := draws()
	taken := 0
	for range 20000 {
		b := someBytes(r, 240+r.IntN(60))
		copy(b, []byte{byte(1 + r.IntN(2)), 1, 6})
		copy(b[236:], []byte{0x63, 0x82, 0x53, 0x63})
		copy(b[44:], lowBytes(b[44:236]))
		copy(b[240:], lowBytes(b[240:]))
		if r.IntN(2) == 0 {
			b = append(b[:240], plainOptions(append(list(opt(52, byte(1+r.IntN(3)))), someOptions(r, r.IntN(40))...))...)
		}
		if _, e := plainRead(b); e == api.OK {
			checkBackAgain(t, b)
			taken++
		}
	}
	if taken < 3000 {
		t.Errorf("%d were taken", taken)
	}
}

// TestEncodeOfDecodeLong: P16.6: texts that fill their rooms, and options that don't fit into 1232 bytes, are ErrLong.
func TestEncodeOfDecodeLong(t *testing.T) {
	for n, want := range map[int]api.Errno{62: api.OK, 63: api.OK, 64: api.ErrLong} {
		if e := checkBackAgain(t, put(bare(), 44, bytes.Repeat([]byte{'s'}, n)...)); e != want {
			t.Errorf("Sname of %d bytes: %d", n, e)
		}
	}
	for n, want := range map[int]api.Errno{126: api.OK, 127: api.OK, 128: api.ErrLong} {
		if e := checkBackAgain(t, put(bare(), 108, bytes.Repeat([]byte{'f'}, n)...)); e != want {
			t.Errorf("File of %d bytes: %d", n, e)
		}
	}
	for n, want := range map[int]api.Errno{1220: api.OK, 1221: api.OK, 1222: api.ErrLong, 3000: api.ErrLong} {
		if e := checkBackAgain(t, withOptions(bare(), plainOptions(list(opt(7, someData(n)...)))...)); e != want {
			t.Errorf("an option of %d bytes: %d", n, e)
		}
	}
	for n, want := range map[int]api.Errno{1094: api.OK, 1095: api.OK, 1096: api.ErrLong} {
		behind := plainOptions(list(opt(52, 1), opt(7, someData(n)...)))
		file := append([]byte{7, 126}, someData(126)...)
		if e := checkBackAgain(t, overloaded(behind, file, nil)); e != want {
			t.Errorf("an option of %d bytes and of 126 in File's room: %d", n, e)
		}
	}
	checkBackAgain(t, withOptions(bare(), plainOptions(row(60, 64, 1))...))
	checkBackAgain(t, withOptions(bare(), plainOptions(append(row(60, 63, 1), opt(52, 3)))...))
}

// TestDatagramTakes: P16.5: at the limit, too, a message fits into a datagram, a packet and a frame, and is read from them again.
func TestDatagramTakes(t *testing.T) {
	for _, m := range edgeMessages() {
		b, _ := bootp.Encode(m)
		datagram, e := udp.Encode(0, 0xffffffff, api.Udp{Src: api.PortClient, Dst: api.PortServer, Data: b})
		if e != api.OK {
			t.Fatalf("a datagram of %d bytes: %d", len(b), e)
		}
		packet, e := inet.Encode(api.Ip{Ttl: 64, Proto: api.ProtoUdp, Dst: 0xffffffff}, datagram)
		if e != api.OK {
			t.Fatalf("a packet of %d bytes: %d", len(b), e)
		}
		sealed, e := frame.Seal(api.Frame{Src: station(), Dst: api.Mac{255, 255, 255, 255, 255, 255}, Kind: api.KindIp, Data: packet})
		if e != api.OK {
			t.Fatalf("a frame of %d bytes: %d", len(b), e)
		}
		f, _ := frame.Open(sealed)
		_, data, _ := inet.Decode(f.Data)
		u, e := udp.Decode(0, 0xffffffff, data)
		if e != api.OK {
			t.Fatalf("back from a frame of %d bytes: %d", len(b), e)
		}
		checkTaken(t, u.Data, m)
	}
	b, _ := bootp.Encode(chapterMessage())
	if len(b)+8+20+14 != 342 {
		t.Errorf("a discover's frame has %d bytes", len(b)+42)
	}
}
