package udp_test

import (
	"bytes"
	"testing"

	"slipway/api"
	"slipway/frame"
	"slipway/inet"
	"slipway/udp"
)

func checkThereAndBack(t *testing.T, src, dst uint32, u api.Udp, behind []byte) {
	t.Helper()
	b, e := udp.Encode(src, dst, u)
	if e != api.OK {
		t.Fatalf("Encode(%d to %d, %d bytes): %d", u.Src, u.Dst, len(u.Data), e)
	}
	b = append(b, behind...)
	if got, e := udp.Decode(src, dst, b); e != api.OK || !same(got, u) {
		t.Errorf("Decode of Encode of %v, %d bytes behind: %v, %d", u, len(behind), got, e)
	}
	if got, e := udp.Decode(dst, src, b); e != api.OK || !same(got, u) {
		t.Errorf("Decode for the addresses in turn of Encode of %v, %d bytes behind: %v, %d", u, len(behind), got, e)
	}
}

// TestDecodeOfEncode: P12.3: the datagram comes back, with anything behind, for the same addresses and for these in turn.
func TestDecodeOfEncode(t *testing.T) {
	r := draws()
	list := edgeDatagrams()
	for n := range 300 {
		list = append(list, someDatagram(r, n), ofZeroSum(two, one, someDatagram(r, n)))
	}
	for _, u := range list {
		for _, behind := range [][]byte{nil, {0}, make([]byte, 24), someBytes(r, r.IntN(100)), plainForm(two, one, u)} {
			checkThereAndBack(t, two, one, u, behind)
			checkThereAndBack(t, r.Uint32(), r.Uint32(), u, behind)
		}
	}
	for _, src := range edgeAddresses() {
		for _, dst := range edgeAddresses() {
			checkThereAndBack(t, src, dst, chapterDatagram(), nil)
		}
	}
	checkThereAndBack(t, two, one, chapterDatagram(), make([]byte, 70000))
}

// TestAddressBits: P12.3: an address of which one bit is another one is ErrSum, whichever bit of which address it is.
func TestAddressBits(t *testing.T) {
	r := draws()
	for _, src := range append(edgeAddresses(), r.Uint32()) {
		for _, dst := range append(edgeAddresses(), r.Uint32()) {
			for _, u := range []api.Udp{chapterDatagram(), {Dst: 1}, ofZeroSum(src, dst, someDatagram(r, 9)), someDatagram(r, 50)} {
				b, _ := udp.Encode(src, dst, u)
				for bit := range 32 {
					checkRefused(t, src^1<<bit, dst, b, api.ErrSum)
					checkRefused(t, src, dst^1<<bit, b, api.ErrSum)
					checkRefused(t, dst^1<<bit, src, b, api.ErrSum)
					checkRefused(t, dst, src^1<<bit, append(b, 7), api.ErrSum)
				}
			}
		}
	}
}

// checkBackAndThere: what Decode tells is laid as the bytes that it read, up to the length.
func checkBackAndThere(t *testing.T, src, dst uint32, b, want []byte) {
	t.Helper()
	u, e := udp.Decode(src, dst, b)
	if e != api.OK {
		t.Fatalf("Decode(% x): %d", b, e)
	}
	if back, e := udp.Encode(src, dst, u); e != api.OK || !bytes.Equal(back, want) {
		t.Errorf("Encode of Decode of % x: % x, %d, want % x", b, back, e, want)
	}
}

// TestEncodeOfDecode: P12.3: the first bytes come back, whatever they are.
func TestEncodeOfDecode(t *testing.T) {
	r := draws()
	for i := range 20000 {
		src, dst, b := r.Uint32(), r.Uint32(), someBytes(r, 8+i%100)
		length := 8 + r.IntN(len(b)-7)
		b[3], b[4], b[5] = 1|b[3], 0, byte(length)
		mend(src, dst, b)
		checkBackAndThere(t, src, dst, b, b[:length])
	}
	for _, n := range []int{0, 1, 1471, 1472} {
		b := plainForm(two, one, api.Udp{Src: 0, Dst: 9, Data: someData(n)})
		checkBackAndThere(t, two, one, b, b)
		checkBackAndThere(t, two, one, append(bytes.Clone(b), 1, 2, 3), b)
		full := plainForm(two, one, ofZeroSum(two, one, api.Udp{Dst: 9, Data: someData(n)}))
		checkBackAndThere(t, two, one, full, full)
	}
}

// TestEncodeOfDecodeNoSum: P12.3: where there was no sum, there is one then; all else comes back.
func TestEncodeOfDecodeNoSum(t *testing.T) {
	r := draws()
	for n := range 200 {
		want := plainForm(two, one, someDatagram(r, n))
		b := bytes.Clone(want)
		b[6], b[7] = 0, 0
		checkBackAndThere(t, two, one, b, want)
	}
}

// TestEncodeOfDecodeLong: P12.3 with P12.1: Decode tells more Data than Encode takes.
func TestEncodeOfDecodeLong(t *testing.T) {
	for _, n := range []int{1473, 1474, 65527} {
		u, e := udp.Decode(two, one, plainForm(two, one, api.Udp{Src: 1, Dst: 2, Data: someData(n)}))
		if e != api.OK || len(u.Data) != n {
			t.Fatalf("Decode of %d bytes of Data: %d bytes, %d", n, len(u.Data), e)
		}
		checkUnlaid(t, u, api.ErrLong)
	}
}

// TestPacketTakes: P12.4: what Encode makes fits into a packet and a frame, and is read from them with the zeros that lie behind.
func TestPacketTakes(t *testing.T) {
	r := draws()
	for n := range 1473 {
		u := someDatagram(r, n)
		b, _ := udp.Encode(two, one, u)
		packet, e := inet.Encode(api.Ip{Ttl: 64, Proto: api.ProtoUdp, Src: two, Dst: one}, b)
		if e != api.OK {
			t.Fatalf("a packet of %d bytes of Data: %d", n, e)
		}
		sealed, e := frame.Seal(api.Frame{Dst: api.Mac{2, 1}, Src: api.Mac{2, 2}, Kind: api.KindIp, Data: packet})
		if e != api.OK {
			t.Fatalf("a frame of %d bytes of Data: %d", n, e)
		}
		f, _ := frame.Open(sealed)
		h, data, e := inet.Decode(f.Data)
		if e != api.OK || !bytes.Equal(data, b) {
			t.Fatalf("back from a packet of %d bytes of Data: %d bytes, %d", n, len(data), e)
		}
		if got, e := udp.Decode(h.Src, h.Dst, data); e != api.OK || !same(got, u) {
			t.Errorf("Decode from a packet, %d bytes of Data: %d bytes, %d", n, len(got.Data), e)
		}
		if got, e := udp.Decode(h.Src, h.Dst, f.Data[20:]); e != api.OK || !same(got, u) {
			t.Errorf("Decode from a frame, %d bytes of Data: %d bytes, %d", n, len(got.Data), e)
		}
	}
}
