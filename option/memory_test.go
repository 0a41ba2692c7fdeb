package option_test

import (
	"bytes"
	"testing"

	"slipway/api"
	"slipway/option"
)

// overwrite fills bytes and the spare room behind them.
func overwrite(b []byte) {
	b = b[:cap(b)]
	for i := range b {
		b[i] = 0xee
	}
}

// overwriteList fills options, their bytes, and all spare room.
func overwriteList(l []api.Option) {
	for _, o := range l {
		overwrite(o.Data)
	}
	l = l[:cap(l)]
	for i := range l {
		l[i] = opt(0xee, 0xee, 0xee)
	}
}

// roomy is bytes with others behind them in the same memory.
func roomy(b []byte) []byte {
	return append(bytes.Clone(b), someData(50)...)[:len(b)]
}

// roomyList is a list that has others behind it in the same memory, and so do its options' bytes.
func roomyList(l []api.Option) []api.Option {
	var c []api.Option
	for _, o := range l {
		c = append(c, api.Option{Code: o.Code, Data: roomy(o.Data)})
	}
	return append(c, opt(99, 1), opt(98, 2), opt(97, 3))[:len(c)]
}

// whole is all that can be reached from a list, the spare room with it.
func whole(l []api.Option) []api.Option {
	var c []api.Option
	for _, o := range l[:cap(l)] {
		c = append(c, opt(o.Code, o.Data[:cap(o.Data)]...))
	}
	return c
}

// memoryLists are laid, and refused for each of the reasons that there are.
func memoryLists() [][]api.Option {
	l := [][]api.Option{nil, row(1, 64, 1), row(1, 65, 2), list(opt(0, 1, 2)), list(opt(7, 1), opt(7, 2, 3)), list(opt(255), opt(1, 1, 2, 3, 4))}
	for _, n := range edgeLengths() {
		l = append(l, list(opt(53, 1), opt(67, someData(n)...), opt(3, 9, 9, 9, 9)))
	}
	return l
}

func memoryParts() [][][]byte {
	parts := [][][]byte{nil, {nil}, {{}}, {{255}}, {{7}}, {{7, 3, 1}}, {{7, 1, 1, 8, 1, 2, 7, 1, 3, 255, 9}, {8, 2, 4, 5}, {7, 3, 9, 9, 9}}, {plainBytes(row(1, 64, 3)), plainBytes(row(1, 64, 9))}, {plainBytes(row(1, 65, 1))}}
	for _, l := range memoryLists() {
		parts = append(parts, [][]byte{plainBytes(l)}, [][]byte{plainBytes(l), plainBytes(l), {}})
	}
	return parts
}

// TestPackMemory: P15.7: R2 at Pack: the list is left, and the bytes share nothing with it, nor with other bytes.
func TestPackMemory(t *testing.T) {
	for _, plain := range memoryLists() {
		for _, room := range []int{0, 5, 9999} {
			l := roomyList(plain)
			was := copied(whole(l))
			first, e := option.Pack(l, room)
			second, _ := option.Pack(l, room)
			keep := bytes.Clone(second)
			overwrite(first)
			if !same(whole(l), was) {
				t.Errorf("Pack of %d options changed them, or shares memory with them", len(l))
			}
			overwriteList(l)
			if !bytes.Equal(second, keep) {
				t.Errorf("Pack of %d options: the bytes share memory with others, or with the list", len(l))
			}
			checkPack(t, plain, room)
			if e == api.OK && !bytes.Equal(second, plainBytes(plain)) {
				t.Errorf("Pack of %d options: % x", len(plain), second)
			}
		}
	}
}

// TestParseMemory: P15.7: R2 at Parse: the parts are left, and the options share nothing with them, nor with other options.
func TestParseMemory(t *testing.T) {
	for _, plain := range memoryParts() {
		var parts, was [][]byte
		for _, p := range plain {
			parts = append(parts, roomy(p))
			was = append(was, bytes.Clone(roomy(p)[:len(p)+50]))
		}
		first, _ := option.Parse(parts...)
		second, _ := option.Parse(parts...)
		keep := copied(second)
		overwriteList(first)
		for i, p := range parts {
			if !bytes.Equal(p[:len(p)+50], was[i]) {
				t.Errorf("Parse(% x) changed a part, or shares memory with it", plain)
			}
			overwrite(p)
			parts[i] = nil
		}
		if !same(second, keep) {
			t.Errorf("Parse(% x): the options share memory with others, or with the parts", plain)
		}
		checkParse(t, plain...)
	}
}

// TestParsePartsAreLeft: P15.7: the list of parts itself is left as it was.
func TestParsePartsAreLeft(t *testing.T) {
	parts := [][]byte{{7, 1, 1, 255}, {0, 8, 1, 2}, {9, 0}, {1}}[:3]
	option.Parse(parts...)
	if len(parts[0]) != 4 || len(parts[1]) != 4 || len(parts[2]) != 2 || len(parts[:4][3]) != 1 {
		t.Errorf("the parts are %v now", parts[:4])
	}
}

// TestParseApart: P15.7: no two options of one answer share memory: each is filled, and stretched, and the others stay.
func TestParseApart(t *testing.T) {
	for _, plain := range memoryParts() {
		want, _ := plainRead(plain...)
		for i := range want {
			l, _ := option.Parse(plain...)
			_ = append(l[i].Data, someData(20)...)
			if !same(l, want) {
				t.Errorf("Parse(% x): the option %d, stretched, changed another one", plain, i)
			}
			overwrite(l[i].Data)
			for k := range l {
				if k != i && !bytes.Equal(l[k].Data, want[k].Data) {
					t.Errorf("Parse(% x): the options %d and %d share memory", plain, i, k)
				}
			}
		}
	}
}

// TestFindMemory: P15.7: R2 at Find, Number and Small.
func TestFindMemory(t *testing.T) {
	for _, plain := range memoryLists() {
		for _, o := range append(copied(plain), opt(200)) {
			l := roomyList(plain)
			was := copied(whole(l))
			first, _ := option.Find(l, o.Code)
			second, ok := option.Find(l, o.Code)
			option.Number(l, o.Code)
			option.Small(l, o.Code)
			keep := bytes.Clone(second)
			_ = append(first, 1, 2, 3)
			overwrite(first)
			if !same(whole(l), was) {
				t.Errorf("Find(%d) changed the list, or shares memory with it", o.Code)
			}
			overwriteList(l)
			if !bytes.Equal(second, keep) || ok != (plainFind(plain, o.Code) >= 0) {
				t.Errorf("Find(%d): the bytes share memory with others, or with the list", o.Code)
			}
			checkAsked(t, plain, o.Code)
		}
	}
}

// TestMadeMemory: P15.7: R2 at Numbered and Byte: no two of them share memory.
func TestMadeMemory(t *testing.T) {
	for _, made := range []func() api.Option{
		func() api.Option { return option.Numbered(51, 0x01020304) },
		func() api.Option { return option.Byte(53, 5) },
	} {
		first, second := made(), made()
		keep := bytes.Clone(second.Data)
		overwrite(first.Data)
		if !bytes.Equal(second.Data, keep) || !bytes.Equal(made().Data, keep) {
			t.Errorf("made: % x, want % x", second.Data, keep)
		}
	}
}

// TestNothingIsKept: R6: a call answers the same, whatever was called ahead of it, also where that was refused.
func TestNothingIsKept(t *testing.T) {
	for _, ahead := range memoryLists() {
		for _, l := range memoryLists() {
			option.Pack(ahead, 0)
			option.Pack(ahead, 9999)
			option.Parse(plainBytes(ahead), []byte{1})
			option.Parse(plainBytes(ahead))
			option.Find(ahead, 53)
			option.Numbered(53, 7)
			checkPack(t, l, 9999)
			checkPack(t, l, 5)
			checkParse(t, plainBytes(l))
			checkAsked(t, l, 53)
		}
	}
}

// TestSideBySide: calls at the same time don't touch one another, though they work on the same list and parts.
func TestSideBySide(t *testing.T) {
	l := append(row(1, 40, 3), opt(67, someData(600)...), opt(53, 5), opt(51, 0, 0, 14, 16))
	b := plainBytes(l)
	done := make(chan bool)
	for range 8 {
		go func() {
			for range 500 {
				checkLaid(t, l, len(b), b)
				checkUnlaid(t, l, len(b)-1, api.ErrLong)
				checkRead(t, l, b, nil)
				checkUnread(t, api.ErrShort, b, []byte{1})
				checkAsked(t, l, 51)
				checkAsked(t, l, 53)
				checkMade(t, option.Numbered(51, 3600), 51, 0, 0, 14, 16)
				checkMade(t, option.Byte(53, 261), 53, 5)
			}
			done <- true
		}()
	}
	for range 8 {
		<-done
	}
}
