package inet_test

import (
	"bytes"
	"testing"

	"slipway/api"
	"slipway/inet"
)

// overwrite fills bytes and the spare room behind them.
func overwrite(b []byte) {
	b = b[:cap(b)]
	for i := range b {
		b[i] = 0xee
	}
}

func lengthsOfData() []int { return []int{0, 1, 26, 1479, 1480, 1481} }

// TestEncodeLeavesData: P9.5 with R2: neither data nor the room behind it is changed, refused or not.
func TestEncodeLeavesData(t *testing.T) {
	for _, h := range []api.Ip{{}, chapterHead()} {
		for _, n := range lengthsOfData() {
			room := someData(n + 100)
			was, head := bytes.Clone(room), h
			inet.Encode(h, room[:n])
			if !bytes.Equal(room, was) || h != head {
				t.Errorf("Encode of %d bytes changed them, or the room behind them", n)
			}
		}
	}
}

// TestEncodeIsNewMemory: P9.5 with R2: what Encode answers shares nothing with data, nor with another answer.
func TestEncodeIsNewMemory(t *testing.T) {
	for _, n := range lengthsOfData() {
		room := someData(n + 100)
		was := bytes.Clone(room)
		first, _ := inet.Encode(chapterHead(), room[:n])
		second, e := inet.Encode(chapterHead(), room[:n])
		whole := bytes.Clone(second[:cap(second)])
		overwrite(first)
		if !bytes.Equal(room, was) {
			t.Errorf("Encode of %d bytes shares memory with what was handed in", n)
		}
		overwrite(room)
		if !bytes.Equal(second[:cap(second)], whole) {
			t.Errorf("Encode of %d bytes: an answer shares memory with another, or with what was handed in", n)
		}
		if e == api.OK {
			checkEncode(t, chapterHead(), was[:n])
		}
	}
}

// oddBytes are refused for each of the reasons that there are, and taken at the end.
func oddBytes() [][]byte {
	list := [][]byte{}
	for _, fault := range faults() {
		list = append(list, broken(fault))
	}
	return append(list, turned(0, 0x44), nil, chapterBytes(), mend(turned(6, 0x80)))
}

// TestDecodeLeavesBytes: P9.5 with R2: neither the bytes nor the room behind them are changed, refused or not.
func TestDecodeLeavesBytes(t *testing.T) {
	for _, b := range oddBytes() {
		for _, behind := range []int{0, 24} {
			room := append(bytes.Clone(b), someData(100)...)
			was := bytes.Clone(room)
			inet.Decode(room[:len(b)+behind])
			if !bytes.Equal(room, was) {
				t.Errorf("Decode of % x changed them, or the room behind them", b)
			}
		}
	}
}

// TestDecodeIsNewMemory: P9.5 with R2: the data share nothing with the bytes, nor with those of another answer.
func TestDecodeIsNewMemory(t *testing.T) {
	for _, n := range []int{0, 1, 26, 1479, 1480, 2000} {
		form := plainForm(chapterHead(), someData(n))
		room := append(bytes.Clone(form), someData(100)...)
		was := bytes.Clone(room)
		_, first, _ := inet.Decode(room[:len(form)+24])
		h, second, e := inet.Decode(room[:len(form)+24])
		whole := bytes.Clone(second[:cap(second)])
		overwrite(first)
		if !bytes.Equal(room, was) {
			t.Errorf("Decode of %d bytes of data shares memory with what was handed in", n)
		}
		overwrite(room)
		if !bytes.Equal(second[:cap(second)], whole) {
			t.Errorf("Decode of %d bytes of data: an answer shares memory with another, or with what was handed in", n)
		}
		if e != api.OK || h != chapterHead() || !bytes.Equal(second, form[20:]) {
			t.Errorf("Decode of %d bytes of data: %v, %d", n, h, e)
		}
	}
}

// TestNothingIsKept: R6: a call answers the same, whatever was called ahead of it, also where that was refused.
func TestNothingIsKept(t *testing.T) {
	for _, ahead := range oddBytes() {
		for _, b := range oddBytes() {
			inet.Decode(ahead)
			inet.Encode(api.Ip{}, ahead)
			checkDecode(t, b)
			checkEncode(t, chapterHead(), b)
		}
	}
}
