package icmp_test

import (
	"bytes"
	"testing"

	"slipway/api"
	"slipway/icmp"
)

// overwrite fills bytes and the spare room behind them.
func overwrite(b []byte) {
	b = b[:cap(b)]
	for i := range b {
		b[i] = 0xee
	}
}

func lengthsOfData() []int { return []int{0, 1, 2, 3, 19, 20, 27, 28, 29, 1471, 1472, 1473} }

// callsOnData are all calls that take Data or a packet, each told as what it answers of bytes.
func callsOnData() map[string]func(data []byte) []byte {
	return map[string]func(data []byte) []byte{
		"Encode":         func(data []byte) []byte { b, _ := icmp.Encode(api.Icmp{Kind: 8, Rest: 5, Data: data}); return b },
		"Encode refused": func(data []byte) []byte { b, _ := icmp.Encode(api.Icmp{Kind: 9, Rest: 5, Data: data}); return b },
		"Answer":         func(data []byte) []byte { a, _ := icmp.Answer(api.Icmp{Kind: 8, Rest: 5, Data: data}); return a.Data },
		"no Answer":      func(data []byte) []byte { a, _ := icmp.Answer(api.Icmp{Kind: 0, Rest: 5, Data: data}); return a.Data },
		"Refuse":         func(data []byte) []byte { return icmp.Refuse(3, data).Data },
		"Decode":         func(data []byte) []byte { m, _ := icmp.Decode(data); return m.Data },
	}
}

// checkMemory: a call neither changes what was handed in nor the room behind it, and what it answers shares nothing with that, nor with another answer.
func checkMemory(t *testing.T, name string, call func(data []byte) []byte, data []byte) {
	t.Helper()
	room := append(bytes.Clone(data), someData(100)...)
	was := bytes.Clone(room)
	first := call(room[:len(data)])
	second := call(room[:len(data)])
	if !bytes.Equal(room, was) {
		t.Errorf("%s of %d bytes changed them, or the room behind them", name, len(data))
	}
	if !bytes.Equal(first, second) {
		t.Errorf("%s of %d bytes: another answer at the second time", name, len(data))
	}
	whole := bytes.Clone(second[:cap(second)])
	overwrite(first)
	if !bytes.Equal(room, was) {
		t.Errorf("%s of %d bytes shares memory with what was handed in", name, len(data))
	}
	overwrite(room)
	if !bytes.Equal(second[:cap(second)], whole) {
		t.Errorf("%s of %d bytes: an answer shares memory with another, or with what was handed in", name, len(data))
	}
	if third := call(was[:len(data)]); !bytes.Equal(third, second) {
		t.Errorf("%s of %d bytes: another answer once the first ones were changed", name, len(data))
	}
}

// TestMemory: P14.5: R2 at all calls, over bytes of all edges, taken and refused.
func TestMemory(t *testing.T) {
	for name, call := range callsOnData() {
		for _, n := range lengthsOfData() {
			checkMemory(t, name, call, someData(n))
			checkMemory(t, name, call, plainForm(api.Icmp{Kind: 8, Code: 1, Rest: 3, Data: someData(n)}))
			checkMemory(t, name, call, plainForm(api.Icmp{Kind: 9, Code: 1, Rest: 3, Data: someData(n)}))
		}
	}
}

// TestNoSpareRoomOfOthers: P14.5: appending to an answer touches neither the message nor another answer.
func TestNoSpareRoomOfOthers(t *testing.T) {
	room := someData(200)
	was := bytes.Clone(room)
	for n := range 100 {
		for _, call := range callsOnData() {
			first, second := call(room[:n]), call(room[:n])
			keep := bytes.Clone(second)
			_ = append(first, 0xee, 0xee, 0xee)
			if !bytes.Equal(room, was) || !bytes.Equal(second, keep) {
				t.Fatalf("appending to an answer of %d bytes changed something else", n)
			}
		}
	}
}

// TestMessageIsLeft: P14.5: the message that was handed in has its numbers and its Data still.
func TestMessageIsLeft(t *testing.T) {
	for _, m := range append(edgeMessages(), api.Icmp{Kind: 9, Code: 300, Rest: 1, Data: someData(1500)}) {
		was := m
		was.Data = bytes.Clone(m.Data)
		icmp.Encode(m)
		icmp.Answer(m)
		if !same(m, was) {
			t.Errorf("the message %v is %v now", was, m)
		}
	}
}

// oddBytes are refused for each of the reasons that there are, and taken at the end.
func oddBytes() [][]byte {
	wrong := chapterBytes()
	wrong[3]++
	return [][]byte{nil, {1, 2, 3, 4, 5, 6, 7}, make([]byte, 1481), wrong, plainForm(api.Icmp{Kind: 7, Rest: 1, Data: []byte{1, 2, 3}}), plainForm(api.Icmp{Kind: 3}), chapterBytes()}
}

// TestNothingIsKept: R6: a call answers the same, whatever was called ahead of it, also where that was refused.
func TestNothingIsKept(t *testing.T) {
	for _, ahead := range oddBytes() {
		for _, b := range oddBytes() {
			for kind := range 10 {
				icmp.Decode(ahead)
				icmp.Encode(api.Icmp{Kind: kind, Code: -1, Data: ahead})
				icmp.Encode(api.Icmp{Kind: kind, Code: 1, Rest: 7, Data: ahead})
				icmp.Answer(api.Icmp{Kind: kind, Rest: 9, Data: ahead})
				icmp.Refuse(kind, ahead)
				checkDecode(t, b)
				checkEncode(t, api.Icmp{Kind: kind, Data: b})
				checkAnswer(t, api.Icmp{Kind: kind, Data: b})
				checkRefuse(t, 5, b)
			}
		}
	}
}

// TestSideBySide: P14.5: calls at the same time don't touch one another.
func TestSideBySide(t *testing.T) {
	q := chapterQuestion()
	done := make(chan bool)
	for range 8 {
		go func() {
			for range 1000 {
				checkLaid(t, q)
				checkAnswer(t, q)
				checkRefuse(t, 3, q.Data)
				checkTaken(t, chapterBytes())
			}
			done <- true
		}()
	}
	for range 8 {
		<-done
	}
}
