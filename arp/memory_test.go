package arp_test

import (
	"bytes"
	"testing"

	"slipway/api"
	"slipway/arp"
)

// overwrite fills bytes and the spare room behind them.
func overwrite(b []byte) {
	b = b[:cap(b)]
	for i := range b {
		b[i] = 0xee
	}
}

// TestEncodeIsNewMemory: P8.5 with R2: no two answers share any, their spare room neither.
func TestEncodeIsNewMemory(t *testing.T) {
	for _, op := range []int{0, 1, 2, 3} {
		p := api.Arp{Op: op, SrcMac: stationA(), SrcIp: ten, DstMac: stationB(), DstIp: one}
		was := p
		first, e := arp.Encode(p)
		second, _ := arp.Encode(p)
		whole := bytes.Clone(second[:cap(second)])
		overwrite(first)
		if !bytes.Equal(second[:cap(second)], whole) {
			t.Errorf("Encode of Op %d: two answers share memory", op)
		}
		if p != was {
			t.Errorf("Encode of Op %d changed the message", op)
		}
		if third, e2 := arp.Encode(p); e2 != e || !bytes.Equal(third, second) {
			t.Errorf("Encode of Op %d hangs on what became of an answer: % x, %d", op, third, e2)
		}
	}
}

// TestDecodeLeavesBytes: P8.5 with R2: neither the bytes nor the room behind them are changed, refused or not.
func TestDecodeLeavesBytes(t *testing.T) {
	for _, kind := range []byte{0, 7} {
		for _, n := range []int{0, 1, 6, 8, 27, 28, 29, 46, 90} {
			room := formOf(100)
			room[0] = kind
			was := bytes.Clone(room)
			arp.Decode(room[:n])
			if !bytes.Equal(room, was) {
				t.Errorf("Decode of %d bytes changed them, or the room behind them", n)
			}
		}
	}
}

// TestDecodeKeepsNothing: P8.5 with R2: the message stays, whatever becomes of the bytes, and they stay, whatever becomes of it.
func TestDecodeKeepsNothing(t *testing.T) {
	for _, n := range []int{28, 46} {
		b := formOf(n)
		was := bytes.Clone(b)
		first, _ := arp.Decode(b)
		second, _ := arp.Decode(b)
		overwrite(first.SrcMac[:])
		overwrite(first.DstMac[:])
		if !bytes.Equal(b, was) || second != plainMessage(was) {
			t.Errorf("Decode of %d bytes shares memory", n)
		}
		overwrite(b)
		if second != plainMessage(was) {
			t.Errorf("Decode of %d bytes hangs on what became of them", n)
		}
		checkRefused(t, b, api.ErrArp)
		checkDecode(t, was)
	}
}

// TestToldStays: P8.5 with R2: what is made of a message or a station is apart from it.
func TestToldStays(t *testing.T) {
	own, question := stationB(), arp.Ask(stationA(), ten, one)
	probe, ask, tell := arp.Probe(own, nine), arp.Ask(own, nine, one), arp.Tell(own, question)
	arp.Clash(own, one, question)
	if own != stationB() || question != (api.Arp{Op: 1, SrcMac: stationA(), SrcIp: ten, DstIp: one}) {
		t.Error("what was handed in was changed")
	}
	overwrite(own[:])
	overwrite(question.SrcMac[:])
	want := api.Arp{Op: 2, SrcMac: stationB(), SrcIp: one, DstMac: stationA(), DstIp: ten}
	if probe.SrcMac != stationB() || ask.SrcMac != stationB() || tell != want {
		t.Error("what was told hangs on what became of what was handed in")
	}
	overwrite(tell.DstMac[:])
	if again := arp.Tell(stationB(), arp.Ask(stationA(), ten, one)); again != want {
		t.Errorf("Tell hangs on what became of an answer: %v", again)
	}
}
