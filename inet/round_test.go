package inet_test

import (
	"bytes"
	"testing"

	"slipway/api"
	"slipway/frame"
	"slipway/inet"
)

func checkThereAndBack(t *testing.T, h api.Ip, data, behind []byte) {
	t.Helper()
	b, e := inet.Encode(h, data)
	if e != api.OK {
		t.Fatalf("Encode(%v, %d bytes): %d", h, len(data), e)
	}
	got, d, e := inet.Decode(append(b, behind...))
	if e != api.OK || got != h || !bytes.Equal(d, data) {
		t.Errorf("Decode of Encode of %v, %d bytes, %d behind: %v, %d bytes, %d", h, len(data), len(behind), got, len(d), e)
	}
}

// TestDecodeOfEncode: P9.3: the head and the data come back, with anything behind.
func TestDecodeOfEncode(t *testing.T) {
	r := draws()
	list := edgeHeads()
	for range 300 {
		list = append(list, someHead(r))
	}
	for _, h := range list {
		for _, n := range []int{0, 1, 2, 1479, 1480, r.IntN(1481)} {
			data := someBytes(r, n)
			checkThereAndBack(t, h, data, nil)
			checkThereAndBack(t, h, data, make([]byte, 24))
			checkThereAndBack(t, h, data, someBytes(r, r.IntN(100)))
			checkThereAndBack(t, h, data, plainForm(h, data))
		}
	}
	checkThereAndBack(t, chapterHead(), nil, make([]byte, 70000))
}

// TestDecodeOfEncodeNumbers: P9.3: each value of each number comes back.
func TestDecodeOfEncodeNumbers(t *testing.T) {
	for _, x := range numbers() {
		for n := x.least; n <= x.most; n++ {
			h := chapterHead()
			x.lay(&h, n)
			checkThereAndBack(t, h, []byte{1}, []byte{2})
		}
	}
	for bit := range 32 {
		h := chapterHead()
		h.Src, h.Dst = 1<<bit, 1<<32-1-1<<bit
		checkThereAndBack(t, h, nil, nil)
		h.Src, h.Dst = h.Dst, h.Src
		checkThereAndBack(t, h, nil, nil)
	}
}

// checkBackAndThere: what Decode tells is laid as the bytes that it read, up to the length.
func checkBackAndThere(t *testing.T, b, want []byte) {
	t.Helper()
	h, d, e := inet.Decode(b)
	if e != api.OK {
		t.Fatalf("Decode(% x): %d", b, e)
	}
	if back, e := inet.Encode(h, d); e != api.OK || !bytes.Equal(back, want) {
		t.Errorf("Encode of Decode of % x: % x, %d, want % x", b, back, e, want)
	}
}

// TestEncodeOfDecode: P9.3: the first bytes come back, whatever they are.
func TestEncodeOfDecode(t *testing.T) {
	r := draws()
	for i := range 20000 {
		b := someBytes(r, 20+i%100)
		length := 20 + r.IntN(len(b)-19)
		b[0], b[2], b[3], b[6], b[7], b[8] = 0x45, 0, byte(length), byte(i%2*64), 0, 1|b[8]
		mend(b)
		checkBackAndThere(t, b, b[:length])
	}
	for _, n := range []int{0, 1, 1479, 1480} {
		b := plainForm(chapterHead(), someData(n))
		checkBackAndThere(t, b, b)
		checkBackAndThere(t, append(bytes.Clone(b), 1, 2, 3), b)
	}
}

// TestEncodeOfDecodeSumFull: P9.3: FFFF in the place of 0 is right too, but 0 is written.
func TestEncodeOfDecodeSumFull(t *testing.T) {
	r := draws()
	for n := range 200 {
		data := someBytes(r, n)
		want := plainForm(headOfSumZero(someHead(r), n), data)
		if want[10] != 0 || want[11] != 0 {
			t.Fatalf("a sum other than 0: % x", want)
		}
		b := bytes.Clone(want)
		b[10], b[11] = 255, 255
		checkBackAndThere(t, b, want)
		checkBackAndThere(t, want, want)
	}
}

// TestEncodeOfDecodeHighestFlag: P9.3: it is not told, and so not laid again.
func TestEncodeOfDecodeHighestFlag(t *testing.T) {
	for _, flags := range []byte{0x80, 0xc0} {
		want := mend(turned(6, flags&0x40))
		checkBackAndThere(t, mend(turned(6, flags)), want)
	}
}

// TestEncodeOfDecodeLong: P9.3 with P9.1: Decode takes lengths above MaxData, Encode doesn't.
func TestEncodeOfDecodeLong(t *testing.T) {
	for _, n := range []int{1501, 1502, 65535} {
		b := plainForm(chapterHead(), someData(n-20))
		checkTaken(t, b)
		h, d, _ := inet.Decode(b)
		checkUnlaid(t, h, d, api.ErrLong)
	}
}

// TestOneBitTurned: P9.4: no head of which one bit was turned is taken; what tells is the sum, unless something ahead of it does.
func TestOneBitTurned(t *testing.T) {
	for _, h := range append(edgeHeads(), someHead(draws())) {
		for _, n := range []int{0, 1, 2, 100, 1480} {
			for _, behind := range []int{0, 1, 26, 70000} {
				b := append(plainForm(h, someData(n)), make([]byte, behind)...)
				checkAllBits(t, b)
			}
		}
	}
}

func checkAllBits(t *testing.T, b []byte) {
	t.Helper()
	checkTaken(t, b)
	for bit := range 160 {
		b[bit/8] ^= 1 << (bit % 8)
		want := plainError(b)
		if early := bit < 8 || bit >= 16 && bit < 32; !early && want != api.ErrSum || want == api.OK {
			t.Errorf("bit %d turned: %d is no error for it", bit, want)
		}
		checkRefused(t, b, want)
		b[bit/8] ^= 1 << (bit % 8)
	}
}

// TestOneBitTurnedFirst: P9.4: which errors stand ahead of the sum: bits of byte 0, from the lowest on, and of the length.
func TestOneBitTurnedFirst(t *testing.T) {
	for bit, want := range []api.Errno{92, 91, 92, 91, 90, 90, 90, 90} {
		checkRefused(t, turned(0, 0x45^1<<bit), want)
	}
	for bit, want := range []api.Errno{92, 93, 92, 92, 92, 92, 92, 92} { // 16 becomes 17, 14, 12, 1E, 6, 36, 56, 96
		checkRefused(t, turned(3, 0x16^1<<bit), want)
	}
	long := append(chapterBytes(), make([]byte, 70000)...)
	for bit := range 16 {
		long[3-bit/8] ^= 1 << (bit % 8)
		want := api.ErrSum
		if bit == 2 || bit == 4 { // below 20
			want = api.ErrLength
		}
		checkRefused(t, long, want)
		long[3-bit/8] ^= 1 << (bit % 8)
	}
}

// TestOneBitOfOddHeads: P9.4: heads that Encode doesn't write, but Decode takes, neither.
func TestOneBitOfOddHeads(t *testing.T) {
	checkAllBits(t, mend(turned(6, 0x80)))
	checkAllBits(t, mend(turned(6, 0xc0)))
	full := plainForm(headOfSumZero(chapterHead(), 2), []byte{1, 2})
	full[10], full[11] = 255, 255
	checkAllBits(t, full)
	checkAllBits(t, plainForm(chapterHead(), someData(2000)))
}

// TestFrameTakes: P9.5: what Encode makes fits into a frame, and is read from it with the zeros that lie behind.
func TestFrameTakes(t *testing.T) {
	r := draws()
	for n := range 1481 {
		h, data := someHead(r), someBytes(r, n)
		b, _ := inet.Encode(h, data)
		sealed, e := frame.Seal(api.Frame{Dst: api.Mac{2, 1}, Src: api.Mac{2, 2}, Kind: api.KindIp, Data: b})
		if e != api.OK || len(sealed) > api.MaxFrame {
			t.Fatalf("Seal of %d bytes of data: %d", n, e)
		}
		f, e := frame.Open(sealed)
		if e != api.OK || !bytes.HasPrefix(f.Data, b) {
			t.Fatalf("Open of %d bytes of data: %d", n, e)
		}
		if got, d, e := inet.Decode(f.Data); e != api.OK || got != h || !bytes.Equal(d, data) {
			t.Errorf("Decode from a frame, %d bytes of data: %v, %d bytes, %d", n, got, len(d), e)
		}
	}
}
