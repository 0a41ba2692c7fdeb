package frame_test

import (
	"bytes"
	"testing"

	"slipway/api"
	"slipway/frame"
)

// overwrite fills bytes and the spare room behind them.
func overwrite(b []byte) {
	b = b[:cap(b)]
	for i := range b {
		b[i] = 0xee
	}
}

// lengthsOfData lie about those from which on no zeros are laid, and up to which bytes are taken.
func lengthsOfData() []int { return []int{0, 1, 45, 46, 47, 1499, 1500, 1501} }

// TestSealLeavesData: P3.5 with R2: neither Data nor the room behind it is changed, refused or not.
func TestSealLeavesData(t *testing.T) {
	for _, kind := range []int{0, 2048} {
		for _, n := range lengthsOfData() {
			room := someBytes(draws(), n+100)
			was := bytes.Clone(room)
			frame.Seal(api.Frame{Kind: kind, Data: room[:n]})
			if !bytes.Equal(room, was) {
				t.Errorf("Seal of kind %d, %d bytes changed them, or the room behind them", kind, n)
			}
		}
	}
}

// TestSealIsNewMemory: P3.5 with R2: what Seal answers shares nothing with Data, nor with another answer.
func TestSealIsNewMemory(t *testing.T) {
	for _, n := range lengthsOfData() {
		room := someBytes(draws(), n+100)
		was := bytes.Clone(room)
		f := api.Frame{Dst: everyone(), Src: api.Mac{2}, Kind: 2048, Data: room[:n]}
		one, e := frame.Seal(f)
		two, _ := frame.Seal(f)
		whole := bytes.Clone(two[:cap(two)])
		overwrite(one)
		if !bytes.Equal(room, was) {
			t.Errorf("Seal of %d bytes shares memory with what was handed in", n)
		}
		if !bytes.Equal(two[:cap(two)], whole) {
			t.Errorf("Seal of %d bytes: two answers share memory", n)
		}
		overwrite(room)
		if !bytes.Equal(two[:cap(two)], whole) {
			t.Errorf("Seal of %d bytes hangs on what was handed in", n)
		}
		if f.Data = was[:n]; e == api.OK && !bytes.Equal(two, plainSeal(f)) {
			t.Errorf("Seal of %d bytes: % x", n, two)
		}
	}
}

// TestOpenLeavesBytes: P3.5 with R2: neither the bytes nor the room behind them are changed, refused or not.
func TestOpenLeavesBytes(t *testing.T) {
	for _, kind := range []int{0, 2048} {
		for _, n := range []int{0, 13, 59, 60, 61, 1513, 1514, 1515} {
			room := bytesOfKind(n+100, kind)
			was := bytes.Clone(room)
			frame.Open(room[:n])
			if !bytes.Equal(room, was) {
				t.Errorf("Open of kind %d, %d bytes changed them, or the room behind them", kind, n)
			}
		}
	}
}

// TestOpenIsNewMemory: P3.5 with R2: Data shares nothing with the bytes, nor with that of another answer.
func TestOpenIsNewMemory(t *testing.T) {
	for _, n := range []int{60, 61, 1513, 1514} {
		room := bytesOfKind(n+100, 2048)
		was := bytes.Clone(room)
		one, _ := frame.Open(room[:n])
		two, _ := frame.Open(room[:n])
		whole := bytes.Clone(two.Data[:cap(two.Data)])
		overwrite(one.Data)
		if !bytes.Equal(room, was) {
			t.Errorf("Open of %d bytes shares memory with what was handed in", n)
		}
		if !bytes.Equal(two.Data[:cap(two.Data)], whole) {
			t.Errorf("Open of %d bytes: two answers share memory", n)
		}
		overwrite(room)
		if !bytes.Equal(two.Data[:cap(two.Data)], whole) || !bytes.Equal(two.Data, was[14:n]) {
			t.Errorf("Open of %d bytes hangs on what was handed in", n)
		}
	}
}

// TestMineLeavesData: P3.5 with R2.
func TestMineLeavesData(t *testing.T) {
	room := someBytes(draws(), 100)
	was := bytes.Clone(room)
	frame.Mine(api.Mac{2}, api.Frame{Dst: api.Mac{2}, Data: room[:50]})
	if !bytes.Equal(room, was) {
		t.Error("Mine changed Data, or the room behind it")
	}
}
