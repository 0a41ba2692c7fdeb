package icmp_test

import (
	"bytes"
	"testing"

	"slipway/api"
	"slipway/frame"
	"slipway/icmp"
	"slipway/inet"
)

func checkThereAndBack(t *testing.T, m api.Icmp) {
	t.Helper()
	b, e := icmp.Encode(m)
	if e != api.OK {
		t.Fatalf("Encode(%d, %d, %x, %d bytes): %d", m.Kind, m.Code, m.Rest, len(m.Data), e)
	}
	if got, e := icmp.Decode(b); e != api.OK || !same(got, m) {
		t.Errorf("Decode of Encode of %v: %v, %d", m, got, e)
	}
}

// TestDecodeOfEncode: P14.4: the message comes back, whichever can be written.
func TestDecodeOfEncode(t *testing.T) {
	r := draws()
	for _, m := range edgeMessages() {
		checkThereAndBack(t, m)
		checkThereAndBack(t, ofZeroSum(m))
	}
	for n := range 1473 {
		checkThereAndBack(t, someMessage(r, n))
		checkThereAndBack(t, ofZeroSum(someMessage(r, n)))
		checkThereAndBack(t, api.Icmp{Data: make([]byte, n)})
		checkThereAndBack(t, icmp.Refuse(r.IntN(256), someBytes(r, n)))
	}
}

// TestEncodeOfDecode: P14.4: the bytes come back, whichever are taken.
func TestEncodeOfDecode(t *testing.T) {
	r := draws()
	for i := range 20000 {
		b := someBytes(r, 8+i%100)
		if i%50 == 0 {
			b = someBytes(r, 1480-i%4)
		}
		b[0] = byte(kinds()[i%3])
		mend(b)
		m, e := icmp.Decode(b)
		if e != api.OK {
			t.Fatalf("Decode(% x): %d", b, e)
		}
		if back, e := icmp.Encode(m); e != api.OK || !bytes.Equal(back, b) {
			t.Errorf("Encode of Decode of % x: % x, %d", b, back, e)
		}
	}
}

// TestTurnedBits: P14.4: each bit that is turned is seen, be it of an even or of an odd number of bytes, of zeros or of others.
func TestTurnedBits(t *testing.T) {
	list := []api.Icmp{chapterQuestion(), {}, {Data: make([]byte, 9)}, ofZeroSum(chapterQuestion()), ofZeroSum(api.Icmp{Kind: 3, Data: []byte{1, 2, 3}})}
	for _, kind := range kinds() {
		for _, n := range []int{0, 1, 2, 33, 100, 1471, 1472} {
			list = append(list, api.Icmp{Kind: kind, Code: n % 2, Rest: 0xff00ff00, Data: someData(n)})
		}
	}
	for _, m := range list {
		b, e := icmp.Encode(m)
		if e != api.OK {
			t.Fatalf("Encode of %v: %d", m, e)
		}
		for bit := range 8 * len(b) {
			b[bit/8] ^= 1 << (bit % 8)
			checkRefused(t, b, api.ErrSum)
			b[bit/8] ^= 1 << (bit % 8)
		}
		checkTaken(t, b)
	}
}

// TestAnswerCanBeWritten: P14.4: where the question could be, the answer can, and it is none itself: nobody answers it.
func TestAnswerCanBeWritten(t *testing.T) {
	r := draws()
	for n := range 1473 {
		q := api.Icmp{Kind: api.IcmpAsk, Rest: r.Uint32(), Data: someBytes(r, n)}
		checkLaid(t, q)
		a, ok := icmp.Answer(q)
		if !ok || a.Kind == api.IcmpAsk {
			t.Fatalf("Answer of %d bytes: %v, %v", n, a, ok)
		}
		checkThereAndBack(t, a)
		if again, ok := icmp.Answer(a); ok || !same(again, api.Icmp{}) {
			t.Errorf("Answer of an answer of %d bytes: %v, %v", n, again, ok)
		}
	}
	a, ok := icmp.Answer(api.Icmp{Kind: api.IcmpAsk, Data: make([]byte, 1473)})
	if !ok {
		t.Error("Answer of 1473 bytes: none")
	}
	checkUnlaid(t, a, api.ErrLong)
}

// TestRefuseIsNotAnswered: P14.3: a refusal is no question.
func TestRefuseIsNotAnswered(t *testing.T) {
	for _, code := range []int{-1, 0, 3, 255, 256} {
		if a, ok := icmp.Answer(icmp.Refuse(code, someData(40))); ok || !same(a, api.Icmp{}) {
			t.Errorf("Answer of a refusal: %v, %v", a, ok)
		}
	}
}

// TestPacketTakes: P14.1: what Encode makes fits into a packet and a frame, at the limit, too, and is read from the packet again.
func TestPacketTakes(t *testing.T) {
	r := draws()
	for n := range 1473 {
		m := someMessage(r, n)
		b, _ := icmp.Encode(m)
		packet, e := inet.Encode(api.Ip{Ttl: 64, Proto: api.ProtoIcmp, Src: 0x0a000002, Dst: 0x0a000001}, b)
		if e != api.OK {
			t.Fatalf("a packet of %d bytes of Data: %d", n, e)
		}
		sealed, e := frame.Seal(api.Frame{Dst: api.Mac{2, 1}, Src: api.Mac{2, 2}, Kind: api.KindIp, Data: packet})
		if e != api.OK {
			t.Fatalf("a frame of %d bytes of Data: %d", n, e)
		}
		f, _ := frame.Open(sealed)
		_, data, e := inet.Decode(f.Data)
		if e != api.OK || !bytes.Equal(data, b) {
			t.Fatalf("back from a packet of %d bytes of Data: %d bytes, %d", n, len(data), e)
		}
		if got, e := icmp.Decode(data); e != api.OK || !same(got, m) {
			t.Errorf("Decode from a packet, %d bytes of Data: %d bytes, %d", n, len(got.Data), e)
		}
		refused := icmp.Refuse(3, packet)
		if h, _, _ := inet.Decode(packet); !bytes.Equal(refused.Data, packet[:28]) || h.Src != 0x0a000002 {
			t.Errorf("Refuse of a packet of %d bytes: % x", len(packet), refused.Data)
		}
	}
}
