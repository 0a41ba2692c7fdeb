package tftp_test

import (
	"bytes"
	"slices"
	"strings"
	"testing"

	"slipway/api"
	"slipway/tftp"
)

// overwrite fills bytes and the spare room behind them.
func overwrite(b []byte) {
	b = b[:cap(b)]
	for i := range b {
		b[i] = 0xee
	}
}

// overwriteList fills choices and the spare room behind them.
func overwriteList(l []api.Choice) {
	l = l[:cap(l)]
	for i := range l {
		l[i] = api.Choice{Name: "changed", Value: -99}
	}
}

func overwritePacket(p api.Tftp) {
	overwrite(p.Data)
	overwriteList(p.Choices)
}

// roomy is bytes with others behind them in the same memory.
func roomy(b []byte) []byte {
	return append(bytes.Clone(b), "spare room behind the bytes"...)[:len(b)]
}

// roomyList is choices with others behind them in the same memory.
func roomyList(l []api.Choice) []api.Choice {
	return append(slices.Clone(l), full()...)[:len(l)]
}

func roomyPacket(p api.Tftp) api.Tftp {
	p.Data, p.Choices = roomy(p.Data), roomyList(p.Choices)
	return p
}

// whole is all that can be reached from a packet, the spare room with it, in new memory.
func whole(p api.Tftp) api.Tftp {
	p.Data, p.Choices = bytes.Clone(p.Data[:cap(p.Data)]), slices.Clone(p.Choices[:cap(p.Choices)])
	return p
}

// faulty are packets that are refused, for each of the reasons.
func faulty() []api.Tftp {
	return []api.Tftp{
		{}, {Op: 2, File: "a", Mode: "octet", Choices: full(), Data: []byte("abc")},
		read("", "octet", full()...), read("a", "mail", full()...), read("a", "octet", ch("tsize", 1, "tsize", 2)...), read("a", "octet", ch("foo", 1)...),
		{Op: 6, Choices: ch("tsize", -1)}, {Op: 3, Block: 65536, Data: []byte("abc")}, {Op: 3, Data: make([]byte, 65465)}, {Op: 4, Block: -1},
		{Op: 5, Code: -1}, {Op: 5, Text: "\x00"}, {Op: 5, Text: strings.Repeat("t", 256)},
	}
}

// TestEncodeMemory: R2: the packet is left, the room behind its parts with it, and the bytes share nothing with it, nor with other bytes.
func TestEncodeMemory(t *testing.T) {
	for _, plain := range slices.Concat(packets(), faulty()) {
		p := roomyPacket(plain)
		was := whole(p)
		first, _ := tftp.Encode(p)
		second, _ := tftp.Encode(p)
		keep := bytes.Clone(second)
		_ = append(first, 1, 2, 3)
		overwrite(first)
		if !same(whole(p), was) {
			t.Errorf("Encode of Op %d changed the packet, or shares memory with it", plain.Op)
		}
		overwritePacket(p)
		if !bytes.Equal(second, keep) {
			t.Errorf("Encode of Op %d: the bytes share memory with others, or with the packet", plain.Op)
		}
		checkEncode(t, plain)
	}
}

// memoryBytes are taken, and refused for each of the reasons.
func memoryBytes() [][]byte {
	l := [][]byte{nil, {}, {0}, {0, 7}, {0, 4, 0}, append([]byte{0, 4, 1, 2}, "behind"...), wire(5, "xyno.behind"), wire(1, "a"), wire(1, ".octet."), wire(1, "File.OCTET.TSIZE.5.foo.x.blksize.9."), wire(6, "tsize.5.Blksize.x."), wire(6, "tsize.5.foo.1.tsize.6."), wire(6, "tsize.5.windowsize"), append([]byte{0, 3, 0, 0}, make([]byte, 65465)...), wire(5, "xy"+strings.Repeat("t", 256)+".")}
	for _, p := range packets() {
		l = append(l, plainForm(p))
	}
	return l
}

// TestDecodeMemory: R2: the bytes are left, and the packet shares nothing with them, nor with another one.
func TestDecodeMemory(t *testing.T) {
	for _, plain := range memoryBytes() {
		b := roomy(plain)
		was := bytes.Clone(b[:cap(b)])
		first, _ := tftp.Decode(b)
		second, _ := tftp.Decode(b)
		keep := whole(second)
		_ = append(first.Data, 1, 2, 3)
		overwritePacket(first)
		if !bytes.Equal(b[:cap(b)], was) {
			t.Errorf("Decode(%.200q) changed the bytes, or shares memory with them", plain)
		}
		overwrite(b)
		if !same(whole(second), keep) {
			t.Errorf("Decode(%.200q): the packet shares memory with another one, or with the bytes", plain)
		}
		checkDecode(t, plain)
	}
}

// TestSpareRoomIsEmpty: R2: nothing of what was handed in is left behind what is told.
func TestSpareRoomIsEmpty(t *testing.T) {
	for _, b := range memoryBytes() {
		p, _ := tftp.Decode(roomy(b))
		for _, c := range p.Choices[len(p.Choices):cap(p.Choices)] {
			if c != (api.Choice{}) {
				t.Errorf("Decode(%.200q): %v stands behind the choices", b, c)
			}
		}
		if spare := p.Data[len(p.Data):cap(p.Data)]; !bytes.Equal(spare, make([]byte, len(spare))) {
			t.Errorf("Decode(%.200q): %q stands behind the data", b, spare)
		}
	}
}

// memoryLists are asked for, and answered, in all kinds.
func memoryLists() [][]api.Choice {
	return [][]api.Choice{nil, {}, full(), ch("tsize", 9), ch("foo", 1), ch("foo", 1, "blksize", 100, "blksize", 7, "tsize", 5, "windowsize", 1), ch("blksize", 7), ch("blksize", 1428), ch("windowsize", 0, "tsize", -1)}
}

// TestAgreeMemory: R2: what was asked is left, and what is answered shares nothing with it, nor with another answer.
func TestAgreeMemory(t *testing.T) {
	for _, plain := range memoryLists() {
		asked := roomyList(plain)
		was := slices.Clone(asked[:cap(asked)])
		block, window, first := tftp.Agree(asked, 1428, 8, 0)
		_, _, second := tftp.Agree(asked, 1428, 8, 0)
		keep := slices.Clone(second[:cap(second)])
		_ = append(first, api.Choice{Name: "x"})
		overwriteList(first)
		if !slices.Equal(asked[:cap(asked)], was) {
			t.Errorf("Agree(%v) changed what was asked, or shares memory with it", plain)
		}
		overwriteList(asked)
		if !slices.Equal(second[:cap(second)], keep) {
			t.Errorf("Agree(%v): the answer shares memory with another one, or with what was asked", plain)
		}
		wantBlock, wantWindow, want := plainAgree(plain, 1428, 8, 0)
		if block != wantBlock || window != wantWindow || !slices.Equal(second, want) {
			t.Errorf("Agree(%v): %d, %d, %v", plain, block, window, second)
		}
	}
}

// TestAcceptMemory: R2 at Accept and Want: both lists are left, also where they are one.
func TestAcceptMemory(t *testing.T) {
	for _, plainAsked := range memoryLists() {
		for _, plainAnswer := range memoryLists() {
			asked, answer := roomyList(plainAsked), roomyList(plainAnswer)
			was, wasAnswer := slices.Clone(asked[:cap(asked)]), slices.Clone(answer[:cap(answer)])
			checkAccept(t, asked, answer, 7)
			tftp.Want(asked, "tsize")
			if !slices.Equal(asked[:cap(asked)], was) || !slices.Equal(answer[:cap(answer)], wasAnswer) {
				t.Errorf("Accept(%v, %v) changed what was handed in", plainAsked, plainAnswer)
			}
			checkAccept(t, asked[:len(asked):len(asked)], answer[:len(answer):len(answer)], 7)
		}
		checkAccept(t, plainAsked, plainAsked, 7)
	}
}

// TestNothingIsKept: R6: a call answers the same whatever was called ahead of it.
func TestNothingIsKept(t *testing.T) {
	lists := memoryLists()
	for _, ahead := range memoryBytes() {
		for i, p := range slices.Concat(packets(), faulty()) {
			tftp.Decode(ahead)
			checkEncode(t, p)
			checkAgree(t, p.Choices, 1024, 4, 70000)
			checkAccept(t, lists[i%len(lists)], p.Choices, 9)
			checkDecode(t, ahead)
		}
	}
}

// TestSideBySide: calls at the same time don't touch one another, though they work on the same packets, bytes and lists.
func TestSideBySide(t *testing.T) {
	p := read("boot/image", "octet", full()...)
	b := wire(1, "boot/image.OCTET.BLKSIZE.1428.foo.x.windowsize.8.tsize.0.")
	asked, answer := full(), ch("blksize", 1024, "windowsize", 4, "tsize", 70000)
	done := make(chan bool)
	for range 8 {
		go func() {
			for range 500 {
				checkLaid(t, p)
				checkUnlaid(t, read("a", "mail", asked...), api.ErrName)
				checkTaken(t, b, p)
				checkRefused(t, b[:len(b)-1], api.ErrShort)
				checkAgreed(t, asked, 1024, 4, 70000, 1024, 4, answer)
				checkAccepted(t, asked, answer, 70000, 1024, 4, api.OK)
				checkUnaccepted(t, asked, answer, 69999, api.ErrLong)
				checkWant(t, asked, "windowsize", 8, true)
			}
			done <- true
		}()
	}
	for range 8 {
		<-done
	}
}
