package udp_test

import (
	"bytes"
	"testing"

	"slipway/api"
	"slipway/udp"
)

// overwrite fills bytes and the spare room behind them.
func overwrite(b []byte) {
	b = b[:cap(b)]
	for i := range b {
		b[i] = 0xee
	}
}

func lengthsOfData() []int { return []int{0, 1, 2, 3, 24, 25, 1471, 1472, 1473} }

// TestEncodeLeavesData: P12.4 with R2: neither Data nor the room behind it is changed, refused or not.
func TestEncodeLeavesData(t *testing.T) {
	for _, port := range []int{-1, 0, 1} {
		for _, n := range lengthsOfData() {
			room := someData(n + 100)
			was := bytes.Clone(room)
			u := api.Udp{Src: port, Dst: port, Data: room[:n]}
			udp.Encode(two, one, u)
			if !bytes.Equal(room, was) || u.Src != port || u.Dst != port || len(u.Data) != n {
				t.Errorf("Encode of %d bytes changed them, or the room behind them", n)
			}
		}
	}
}

// TestEncodeIsNewMemory: P12.4 with R2: what Encode answers shares nothing with Data, nor with another answer.
func TestEncodeIsNewMemory(t *testing.T) {
	for _, n := range lengthsOfData() {
		room := someData(n + 100)
		was := bytes.Clone(room)
		u := api.Udp{Src: 5, Dst: 6, Data: room[:n]}
		first, _ := udp.Encode(two, one, u)
		second, e := udp.Encode(two, one, u)
		whole := bytes.Clone(second[:cap(second)])
		overwrite(first)
		if !bytes.Equal(room, was) {
			t.Errorf("Encode of %d bytes shares memory with what was handed in", n)
		}
		overwrite(room)
		if !bytes.Equal(second[:cap(second)], whole) {
			t.Errorf("Encode of %d bytes: an answer shares memory with another, or with what was handed in", n)
		}
		if e == api.OK {
			checkEncode(t, two, one, api.Udp{Src: 5, Dst: 6, Data: was[:n]})
		}
	}
}

// oddBytes are refused for each of the reasons that there are, and taken at the end.
func oddBytes() [][]byte {
	wrong, none := chapterBytes(), chapterBytes()
	wrong[7]++
	none[6], none[7] = 0, 0
	return [][]byte{
		nil, {1, 2, 3, 4, 5, 6, 7}, {0, 1, 0, 2, 0, 7, 0, 0}, {0, 1, 0, 2, 0, 200, 0, 0}, wrong,
		plainForm(two, one, api.Udp{Src: 1, Data: []byte{1, 2, 3}}), none, chapterBytes(),
	}
}

// TestDecodeLeavesBytes: P12.4 with R2: neither the bytes nor the room behind them are changed, refused or not.
func TestDecodeLeavesBytes(t *testing.T) {
	for _, b := range oddBytes() {
		for _, behind := range []int{0, 1, 24} {
			room := append(bytes.Clone(b), someData(100)...)
			was := bytes.Clone(room)
			udp.Decode(two, one, room[:len(b)+behind])
			if !bytes.Equal(room, was) {
				t.Errorf("Decode of % x changed them, or the room behind them", b)
			}
		}
	}
}

// TestDecodeIsNewMemory: P12.4 with R2: Data shares nothing with the bytes, nor with another answer's.
func TestDecodeIsNewMemory(t *testing.T) {
	for _, n := range lengthsOfData() {
		for _, behind := range []int{0, 24} {
			form := plainForm(two, one, api.Udp{Src: 5, Dst: 6, Data: someData(n)})
			room := append(bytes.Clone(form), someData(100)...)
			was := bytes.Clone(room)
			first, _ := udp.Decode(two, one, room[:len(form)+behind])
			second, e := udp.Decode(two, one, room[:len(form)+behind])
			whole := bytes.Clone(second.Data[:cap(second.Data)])
			overwrite(first.Data)
			if !bytes.Equal(room, was) {
				t.Errorf("Decode of %d bytes of Data shares memory with what was handed in", n)
			}
			overwrite(room)
			if !bytes.Equal(second.Data[:cap(second.Data)], whole) {
				t.Errorf("Decode of %d bytes of Data: an answer shares memory with another, or with what was handed in", n)
			}
			if e != api.OK || !same(second, plainRead(form)) {
				t.Errorf("Decode of %d bytes of Data: %v, %d", n, second, e)
			}
		}
	}
}

// TestNothingIsKept: R6: a call answers the same, whatever was called ahead of it, also where that was refused.
func TestNothingIsKept(t *testing.T) {
	for _, ahead := range oddBytes() {
		for _, b := range oddBytes() {
			udp.Decode(one, three, ahead)
			udp.Encode(one, three, api.Udp{Src: -1, Data: ahead})
			udp.Encode(one, three, api.Udp{Src: 1, Dst: 1, Data: ahead})
			checkDecode(t, two, one, b)
			checkEncode(t, two, one, api.Udp{Src: 68, Dst: 67, Data: b})
		}
	}
}
