package icmp_test

import (
	"bytes"
	"testing"

	"slipway/api"
	"slipway/icmp"
)

// TestAnswerExamples: P14.3, the chapter's table.
func TestAnswerExamples(t *testing.T) {
	want := api.Icmp{Kind: api.IcmpTell, Code: 0, Rest: 0x00010002, Data: []byte{0x61, 0x62}}
	if a, ok := icmp.Answer(chapterQuestion()); !ok || !same(a, want) {
		t.Errorf("Answer: %v, %v, want %v", a, ok, want)
	}
	for _, m := range []api.Icmp{{Kind: api.IcmpAsk, Code: 1}, {Kind: api.IcmpTell}} {
		if a, ok := icmp.Answer(m); ok || !same(a, api.Icmp{}) {
			t.Errorf("Answer(%v): %v, %v, want none", m, a, ok)
		}
	}
}

// TestAnswerKinds: P14.3 with R4: a question alone is answered; beside false the message is zero, whatever the other one had.
func TestAnswerKinds(t *testing.T) {
	for _, kind := range append(otherKinds(), kinds()...) {
		for _, code := range append(strangeCodes(), 0, 1, 2, 254, 255) {
			for _, n := range []int{0, 1, 1472, 1473} {
				checkAnswer(t, api.Icmp{Kind: kind, Code: code, Rest: 0xfffffffe, Data: someData(n)})
			}
		}
	}
	for kind := range 256 {
		for code := range 256 {
			checkAnswer(t, api.Icmp{Kind: kind, Code: code, Rest: 7, Data: []byte{8}})
		}
	}
}

// TestAnswerKeeps: P14.3: Rest and Data are as they were, whatever they are, and also where there is more Data than can be written.
func TestAnswerKeeps(t *testing.T) {
	r := draws()
	checkAnswer(t, api.Icmp{Kind: 8})
	checkAnswer(t, api.Icmp{Kind: 8, Data: []byte{}})
	for n := range 2000 {
		checkAnswer(t, api.Icmp{Kind: 8, Rest: r.Uint32(), Data: someBytes(r, n)})
	}
	for _, m := range edgeMessages() {
		checkAnswer(t, m)
	}
}

// TestRefuseExample: P14.3, the chapter's table.
func TestRefuseExample(t *testing.T) {
	want := api.Icmp{Kind: api.IcmpRefused, Code: 3, Rest: 0, Data: bytes.Repeat([]byte{0x45}, 28)}
	if m := icmp.Refuse(3, bytes.Repeat([]byte{0x45}, 30)); !same(m, want) {
		t.Errorf("Refuse: %v, want %v", m, want)
	}
}

// TestRefuseLengths: P14.3: packets of all lengths up to beyond a frame's, those of none, 27, 28 and 29 bytes with them.
func TestRefuseLengths(t *testing.T) {
	packet := someData(2000)
	checkRefuse(t, 1, nil)
	checkRefuse(t, 1, []byte{})
	for n := range packet {
		checkRefuse(t, 1, packet[:n])
		if m := icmp.Refuse(1, packet[:n]); len(m.Data) != min(n, 28) {
			t.Errorf("Refuse of %d bytes: %d bytes", n, len(m.Data))
		}
	}
	checkRefuse(t, 1, make([]byte, 70000))
}

// TestRefuseCodes: P14.3 with P14.1: the code is the one that was handed in, also where it can't be written; that is for Encode to tell.
func TestRefuseCodes(t *testing.T) {
	packet := someData(30)
	for code := range 256 {
		checkRefuse(t, code, packet)
		checkLaid(t, icmp.Refuse(code, packet))
	}
	for _, code := range strangeCodes() {
		checkRefuse(t, code, packet)
		checkRefuse(t, code, nil)
		checkUnlaid(t, icmp.Refuse(code, packet), api.ErrArg)
	}
}
