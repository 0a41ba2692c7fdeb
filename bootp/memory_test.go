package bootp_test

import (
	"bytes"
	"slices"
	"testing"

	"slipway/api"
	"slipway/bootp"
)

// overwrite fills bytes and the spare room behind them.
func overwrite(b []byte) {
	b = b[:cap(b)]
	for i := range b {
		b[i] = 0xee
	}
}

// overwriteList fills options, their bytes, and all spare room.
func overwriteList(l []api.Option) {
	l = l[:cap(l)]
	for i := range l {
		overwrite(l[i].Data)
		l[i] = opt(0xee, 0xee, 0xee)
	}
}

// roomy is bytes with others behind them in the same memory.
func roomy(b []byte) []byte {
	return append(bytes.Clone(b), someData(50)...)[:len(b)]
}

// roomyList is a list that has others behind it in the same memory, and so do its options' bytes.
func roomyList(l []api.Option) []api.Option {
	var c []api.Option
	for _, o := range l {
		c = append(c, api.Option{Code: o.Code, Data: roomy(o.Data)})
	}
	return append(c, opt(99, 1), opt(98, 2), opt(97, 3))[:len(c)]
}

func roomyMessage(m api.Bootp) api.Bootp {
	m.Options = roomyList(m.Options)
	return m
}

// whole is all that can be reached from a list, the spare room with it, in new memory.
func whole(l []api.Option) []api.Option {
	var c []api.Option
	for _, o := range l[:cap(l)] {
		c = append(c, opt(o.Code, bytes.Clone(o.Data[:cap(o.Data)])...))
	}
	return c
}

func copied(m api.Bootp) api.Bootp {
	c := m
	c.Options = nil
	for _, o := range m.Options {
		c.Options = append(c.Options, opt(o.Code, bytes.Clone(o.Data)...))
	}
	return c
}

// memoryMessages are laid, and refused for each of the reasons that there are.
func memoryMessages() []api.Bootp {
	l := append(edgeMessages(), chapterMessage(), fullMessage())
	for set := range 10 {
		l = append(l, faultyMessage(1<<set))
	}
	return append(l, api.Bootp{}, api.Bootp{Op: 1, Options: row(60, 65, 3)})
}

// memoryBytes are taken, with options in all rooms, and refused for each of the reasons that there are.
func memoryBytes() [][]byte {
	form := plainForm(fullMessage())
	packed := plainOptions(row(60, 63, 1))
	return [][]byte{
		nil, {}, form[:239], form, bare(), put(form, 0, 3), put(form, 1, 7), put(form, 236, 7), withOptions(form, 53),
		withOptions(form, 53, 1, 1, 7, 2, 1, 2, 53, 1, 4, 7, 9, 1, 2, 3, 4, 5, 6, 7, 8, 9),
		withOptions(form, 52, 1, 4), withOptions(form, 52, 0), withOptions(form, plainOptions(row(60, 65, 1))...),
		overloaded([]byte{52, 1, 1, 67, 1, 'a'}, []byte{67, 2, 'b', 'c', 7, 0, 255}, []byte("name")),
		overloaded([]byte{67, 1, 'a', 52, 1, 2}, []byte("file"), []byte{67, 2, 'b', 'c', 7, 1, 5, 255}),
		overloaded([]byte{67, 1, 'a', 53, 1, 5, 52, 1, 3}, []byte{7, 1, 8, 67, 2, 'b', 'c', 52, 1, 9}, []byte{67, 2, 'd', 'e', 8, 1, 5}),
		overloaded([]byte{52, 1, 3}, []byte{7, 255}, nil), overloaded([]byte{52, 1, 3}, nil, []byte{7, 255}),
		overloaded(slices.Concat([]byte{52, 1, 3}, packed), []byte{7, 0}, nil),
		withOptions(form, plainOptions(list(opt(7, someData(3000)...)))...),
	}
}

// TestEncodeMemory: R2: the message is left, the room behind its parts with it, and the bytes share nothing with it, nor with other bytes.
func TestEncodeMemory(t *testing.T) {
	for _, plain := range memoryMessages() {
		m := roomyMessage(plain)
		was, kept := whole(m.Options), copied(m)
		first, _ := bootp.Encode(m)
		second, _ := bootp.Encode(m)
		keep := bytes.Clone(second)
		_ = append(first, 1, 2, 3)
		overwrite(first)
		if !sameOptions(whole(m.Options), was) || !same(m, kept) {
			t.Errorf("Encode(%v) changed the message, or shares memory with it", plain)
		}
		overwriteList(m.Options)
		if !bytes.Equal(second, keep) {
			t.Errorf("Encode(%v): the bytes share memory with others, or with the message", plain)
		}
		checkEncode(t, plain)
	}
}

// TestDecodeMemory: R2: the bytes are left, and the message shares nothing with them, nor with another one.
func TestDecodeMemory(t *testing.T) {
	for _, plain := range memoryBytes() {
		b := roomy(plain)
		was := bytes.Clone(b[:len(b)+50])
		first, _ := bootp.Decode(b)
		second, _ := bootp.Decode(b)
		keep, spare := copied(second), whole(second.Options)
		overwriteList(first.Options)
		if !bytes.Equal(b[:len(b)+50], was) {
			t.Errorf("Decode(% x) changed the bytes, or shares memory with them", plain)
		}
		overwrite(b)
		if !same(second, keep) || !sameOptions(whole(second.Options), spare) {
			t.Errorf("Decode(% x): the message shares memory with another one, or with the bytes", plain)
		}
		checkDecode(t, plain)
	}
}

// checkApart: no two lists of one answer share memory: each is stretched and filled, and the others stay.
func checkApart(t *testing.T, what string, made func() []api.Option) {
	t.Helper()
	want := made()
	for i := range want {
		l := made()
		_ = append(l[i].Data, someData(20)...)
		if !sameOptions(l, want) {
			t.Errorf("%s: the option %d, stretched, changed another one", what, i)
		}
		overwrite(l[i].Data)
		for k := range l {
			if k != i && !bytes.Equal(l[k].Data, want[k].Data) {
				t.Errorf("%s: the options %d and %d share memory", what, i, k)
			}
		}
	}
}

// TestApart: R2 within one answer, also where one option was handed in twice.
func TestApart(t *testing.T) {
	for _, b := range memoryBytes() {
		checkApart(t, "Decode", func() []api.Option { m, _ := bootp.Decode(b); return m.Options })
	}
	room := someData(40)
	more := list(api.Option{Code: 7, Data: room[:10]}, api.Option{Code: 8, Data: room[10:20]}, api.Option{Code: 9, Data: room[:10]}, opt(10))
	checkApart(t, "Ask", func() []api.Option { return bootp.Ask(1, station(), 2, 3, 4, more...).Options })
	checkApart(t, "Answer", func() []api.Option { return bootp.Answer(5, chapterMessage(), 3, 4, more...).Options })
	if !bytes.Equal(room, someData(40)) {
		t.Error("what was handed in is changed")
	}
}

// TestDecodeSpareRoom: R2: nothing of the overload that was taken out is left behind the options.
func TestDecodeSpareRoom(t *testing.T) {
	for _, b := range memoryBytes() {
		m, _ := bootp.Decode(b)
		for _, o := range m.Options[len(m.Options):cap(m.Options)] {
			if o.Code != 0 || o.Data != nil {
				t.Errorf("Decode(% x): %v stands behind the options", b, o)
			}
		}
	}
}

// TestMoreMemory: R2 at Ask and Answer: more, and what is answered, are left, and what is made shares nothing with them.
func TestMoreMemory(t *testing.T) {
	for _, plain := range [][]api.Option{nil, list(opt(7)), list(opt(7, 1)), row(60, 20, 5), list(opt(53, 1), opt(52, 1), opt(0)), list(opt(7, someData(2000)...))} {
		for what, made := range map[string]func(to api.Bootp, more []api.Option) api.Bootp{
			"Ask":    func(to api.Bootp, more []api.Option) api.Bootp { return bootp.Ask(1, to.Mac, 2, 3, 4, more...) },
			"Answer": func(to api.Bootp, more []api.Option) api.Bootp { return bootp.Answer(5, to, 3, 4, more...) },
		} {
			more, to := roomyList(plain), roomyMessage(fullMessage())
			was, wasTo := whole(more), whole(to.Options)
			first, second := made(to, more), made(to, more)
			keep, spare := copied(second), whole(second.Options)
			overwriteList(first.Options)
			if !sameOptions(whole(more), was) || !sameOptions(whole(to.Options), wasTo) || !same(to, fullMessage()) {
				t.Errorf("%s changed what was handed in, or shares memory with it", what)
			}
			overwriteList(more)
			overwriteList(to.Options)
			if !same(second, keep) || !sameOptions(whole(second.Options), spare) {
				t.Errorf("%s: the message shares memory with another one, or with what was handed in", what)
			}
			if third := made(fullMessage(), plain); !same(third, keep) {
				t.Errorf("%s: %v, want %v", what, third, keep)
			}
		}
	}
}

// TestTypeMemory: R2 at Type.
func TestTypeMemory(t *testing.T) {
	for _, plain := range memoryMessages() {
		m := roomyMessage(plain)
		was := whole(m.Options)
		if bootp.Type(m) != bootp.Type(plain) || !sameOptions(whole(m.Options), was) {
			t.Errorf("Type(%v) changed the message, or tells another one", plain)
		}
	}
}

// TestNothingIsKept: R6: a call answers the same, whatever was called ahead of it, also where that was refused.
func TestNothingIsKept(t *testing.T) {
	for _, ahead := range memoryBytes() {
		for _, m := range memoryMessages() {
			bootp.Decode(ahead)
			checkEncode(t, m)
			bootp.Answer(5, m, 1, 2, m.Options...)
			checkDecode(t, ahead)
			checkSaid(t, "Ask", bootp.Ask(api.Discover, station(), 1234, 5, 0), chapterMessage())
		}
	}
}

// TestSideBySide: calls at the same time don't touch one another, though they work on the same message and bytes.
func TestSideBySide(t *testing.T) {
	m, faulty := fullMessage(), faultyMessage(1<<7)
	b := plainForm(m)
	both := overloaded([]byte{67, 1, 'a', 52, 1, 3}, []byte{67, 1, 'b'}, []byte{67, 1, 'c'})
	done := make(chan bool)
	for range 8 {
		go func() {
			for range 500 {
				checkLaid(t, m)
				checkUnlaid(t, faulty, api.ErrBoth)
				checkTaken(t, b, m)
				checkTaken(t, both, wanted("", "", opt(67, 'a', 'b', 'c')))
				checkRefused(t, b[:239], api.ErrShort)
				checkSaid(t, "Ask", bootp.Ask(api.Discover, station(), 1234, 5, 0), chapterMessage())
				checkSaid(t, "Answer", bootp.Answer(api.Nak, m, 0, 9, m.Options...), api.Bootp{Op: 2, Xid: m.Xid, All: true, Mac: m.Mac, Options: list(opt(53, 6), opt(54, 0, 0, 0, 9), opt(53, 2), opt(51, 0, 0, 14, 16))})
			}
			done <- true
		}()
	}
	for range 8 {
		<-done
	}
}
