package bootp_test

import (
	"bytes"
	"math"
	"slices"
	"testing"

	"slipway/api"
	"slipway/bootp"
)

func checkSaid(t *testing.T, what string, got, want api.Bootp) {
	t.Helper()
	if !same(got, want) {
		t.Errorf("%s: %v, want %v", what, got, want)
	}
}

// TestType: P16.3: the byte of the option 53, if the first one has just one byte.
func TestType(t *testing.T) {
	for _, x := range []struct {
		l    []api.Option
		want int
	}{
		{nil, 0},
		{list(opt(52, 1), opt(54, 2), opt(53+256, 3)), 0},
		{list(opt(53)), 0},
		{list(opt(53, 5)), 5},
		{list(opt(53, 5, 6)), 0},
		{list(opt(53, 0, 0, 0, 5)), 0},
		{list(opt(53, 0)), 0},
		{list(opt(53, 255)), 255},
		{list(opt(53, 1), opt(53, 2)), 1},
		{list(opt(53), opt(53, 2)), 0},
		{list(opt(53, 1, 1), opt(53, 2)), 0},
		{list(opt(51, 9), opt(50), opt(53, 7), opt(54, 8)), 7},
	} {
		m := fullMessage()
		m.Options = x.l
		if got := bootp.Type(m); got != x.want {
			t.Errorf("Type of %v: %d, want %d", x.l, got, x.want)
		}
	}
	for kind := range 256 {
		if got := bootp.Type(api.Bootp{Options: list(opt(53, byte(kind)))}); got != kind {
			t.Errorf("Type of %d: %d", kind, got)
		}
	}
	if got := bootp.Type(api.Bootp{}); got != 0 {
		t.Errorf("Type of no message: %d", got)
	}
}

// TestTypeHangsOnOptionsAlone: P16.3: a message that can't be laid has its type, too.
func TestTypeHangsOnOptionsAlone(t *testing.T) {
	m := api.Bootp{Op: 9, Hops: -1, Secs: -1, Sname: "\x00", Options: list(opt(0), opt(52, 9), opt(53, 3), opt(53, 4))}
	if got := bootp.Type(m); got != 3 {
		t.Errorf("Type: %d", got)
	}
}

// TestAskExamples: P16.4, the chapter's table.
func TestAskExamples(t *testing.T) {
	checkSaid(t, "a discover", bootp.Ask(api.Discover, station(), 1234, 5, 0), chapterMessage())
	if got := bootp.Ask(api.Request, station(), 1, 70000, 0).Secs; got != 65535 {
		t.Errorf("Secs of 70000: %d", got)
	}
	if got := bootp.Ask(api.Request, station(), 1, -1, 0).Secs; got != 0 {
		t.Errorf("Secs of -1: %d", got)
	}
}

// TestAsk: P16.4: each argument goes to its place, and all else is zero.
func TestAsk(t *testing.T) {
	mac := api.Mac{1, 2, 3, 4, 5, 6}
	want := api.Bootp{Op: 1, Xid: 0x21222324, Secs: 77, All: true, Ci: 0x41424344, Mac: mac, Options: list(opt(53, 3))}
	checkSaid(t, "Ask", bootp.Ask(api.Request, mac, 0x21222324, 77, 0x41424344), want)
	want.Options = list(opt(53, 3), opt(50, 10, 0, 0, 5))
	checkSaid(t, "Ask with one", bootp.Ask(api.Request, mac, 0x21222324, 77, 0x41424344, opt(50, 10, 0, 0, 5)), want)
	more := list(opt(50, 10, 0, 0, 5), opt(54), opt(55, 1, 3, 67), opt(53, 9), opt(52, 1), opt(-7, 7), opt(50, 1), opt(300, 3))
	want.Options = append(list(opt(53, 3)), more...)
	checkSaid(t, "Ask with several", bootp.Ask(api.Request, mac, 0x21222324, 77, 0x41424344, more...), want)
	checkSaid(t, "Ask of zeros", bootp.Ask(0, api.Mac{}, 0, 0, 0), api.Bootp{Op: 1, All: true, Options: list(opt(53, 0))})
	checkSaid(t, "Ask of the greatest", bootp.Ask(255, api.Mac{255, 255, 255, 255, 255, 255}, math.MaxUint32, 65535, math.MaxUint32), api.Bootp{Op: 1, Xid: math.MaxUint32, Secs: 65535, All: true, Ci: math.MaxUint32, Mac: api.Mac{255, 255, 255, 255, 255, 255}, Options: list(opt(53, 255))})
}

// TestAskSecs: P16.4: 0 below 0, 65535 above that, and as it is between them.
func TestAskSecs(t *testing.T) {
	for secs, want := range map[int]int{math.MinInt: 0, -65536: 0, -65535: 0, -2: 0, -1: 0, 0: 0, 1: 1, 255: 255, 256: 256, 65534: 65534, 65535: 65535, 65536: 65535, 65537: 65535, 131072: 65535, 1 << 32: 65535, math.MaxInt: 65535} {
		m := bootp.Ask(api.Discover, station(), 1234, secs, 0)
		checkSaid(t, "Ask", m, api.Bootp{Op: 1, Xid: 1234, Secs: want, All: true, Mac: station(), Options: list(opt(53, 1))})
		checkLaid(t, m)
	}
	for secs := range 65536 {
		if got := bootp.Ask(1, station(), 1, secs, 0).Secs; got != secs {
			t.Fatalf("Secs of %d: %d", secs, got)
		}
	}
}

// TestAskKinds: P16.4: the kind is an option of one byte, its lowest.
func TestAskKinds(t *testing.T) {
	for kind := -300; kind < 600; kind++ {
		want := byte((kind + 512) % 256)
		m := bootp.Ask(kind, station(), 1, 2, 3)
		checkSaid(t, "Ask", m, api.Bootp{Op: 1, Xid: 1, Secs: 2, All: true, Ci: 3, Mac: station(), Options: list(opt(53, want))})
		if bootp.Type(m) != int(want) {
			t.Errorf("Type of Ask of %d: %d", kind, bootp.Type(m))
		}
	}
	for kind, want := range map[int]byte{math.MinInt: 0, math.MinInt + 9: 9, math.MaxInt: 255, 1<<32 + 3: 3} {
		checkSaid(t, "Ask", bootp.Ask(kind, station(), 0, 0, 0), api.Bootp{Op: 1, All: true, Mac: station(), Options: list(opt(53, want))})
	}
}

// TestAnswerExamples: P16.4, the chapter's table.
func TestAnswerExamples(t *testing.T) {
	to := chapterMessage()
	to.Ci = 0x0a000005
	want := api.Bootp{Op: 2, Xid: 1234, All: true, Ci: 0x0a000005, Yi: 0x0a000005, Mac: station(), Options: list(opt(53, 5), opt(54, 10, 0, 0, 1), opt(51, 0, 0, 0x0e, 0x10))}
	checkSaid(t, "an Ack", bootp.Answer(api.Ack, to, 0x0a000005, 0x0a000001, opt(51, 0, 0, 0x0e, 0x10)), want)
}

// TestAnswerKinds: P16.4: Ci of what is answered is told by an Ack, and by nothing else, not by what has its lowest byte alone.
func TestAnswerKinds(t *testing.T) {
	to := fullMessage()
	for kind := -300; kind < 600; kind++ {
		want := api.Bootp{Op: 2, Xid: to.Xid, All: true, Yi: 7, Mac: to.Mac, Options: list(opt(53, byte((kind+512)%256)), opt(54, 0, 0, 0, 9))}
		if kind == 5 {
			want.Ci = to.Ci
		}
		checkSaid(t, "Answer", bootp.Answer(kind, to, 7, 9), want)
	}
	for _, kind := range []int{api.Discover, api.Offer, api.Request, api.Decline, api.Nak, api.Release, api.Inform, 5 + 256, 5 - 256, 1<<32 + 5, math.MaxInt, math.MinInt} {
		if got := bootp.Answer(kind, to, 7, 9).Ci; got != 0 {
			t.Errorf("Ci of the answer %d: %x", kind, got)
		}
	}
}

// TestAnswer: P16.4: of what is answered Xid, All, Mac, and an Ack's Ci are told, and nothing else.
func TestAnswer(t *testing.T) {
	for _, all := range []bool{true, false} {
		to := fullMessage()
		to.All = all
		want := api.Bootp{Op: 2, Xid: 0x21222324, All: all, Ci: 0x41424344, Yi: 0x01020304, Mac: to.Mac, Options: list(opt(53, 5), opt(54, 5, 6, 7, 8))}
		checkSaid(t, "Answer", bootp.Answer(api.Ack, to, 0x01020304, 0x05060708), want)
		more := list(opt(51, 0, 0, 0, 1), opt(54, 1), opt(53), opt(52, 2), opt(0), opt(-1, 1, 2))
		want.Options = append(want.Options, more...)
		checkSaid(t, "Answer with several", bootp.Answer(api.Ack, to, 0x01020304, 0x05060708, more...), want)
	}
	checkSaid(t, "Answer to nothing", bootp.Answer(api.Offer, api.Bootp{}, 0, 0), api.Bootp{Op: 2, Options: list(opt(53, 2), opt(54, 0, 0, 0, 0))})
	strangeTo := api.Bootp{Op: 9, Hops: -5, Xid: 3, Secs: -1, Ci: 8, Sname: "\x00", Options: list(opt(0))}
	checkSaid(t, "Answer to what can't be laid", bootp.Answer(api.Ack, strangeTo, 1, 2), api.Bootp{Op: 2, Xid: 3, Ci: 8, Yi: 1, Options: list(opt(53, 5), opt(54, 0, 0, 0, 2))})
}

// TestMoreIsNoneOrEmpty: R3: no more options, and an empty list of them, are the same.
func TestMoreIsNoneOrEmpty(t *testing.T) {
	for _, more := range [][]api.Option{nil, {}} {
		checkSaid(t, "Ask", bootp.Ask(api.Discover, station(), 1234, 5, 0, more...), chapterMessage())
		checkSaid(t, "Answer", bootp.Answer(api.Nak, chapterMessage(), 0, 1, more...), api.Bootp{Op: 2, Xid: 1234, All: true, Mac: station(), Options: list(opt(53, 6), opt(54, 0, 0, 0, 1))})
	}
	m := bootp.Ask(1, station(), 0, 0, 0, api.Option{Code: 7}, api.Option{Code: 8, Data: []byte{}})
	if !sameOptions(m.Options, list(opt(53, 1), opt(7), opt(8))) {
		t.Errorf("options without bytes: %v", m.Options)
	}
}

// TestSaidIsLaid: P16.4 with P16.5: what Ask and Answer make is laid and read again, while more can be.
func TestSaidIsLaid(t *testing.T) {
	r := draws()
	for range 3000 {
		more := slices.DeleteFunc(someOptions(r, r.IntN(60)), func(o api.Option) bool { return o.Code == 53 || o.Code == 54 })
		ask := bootp.Ask(r.IntN(256), api.Mac(someBytes(r, 6)), r.Uint32(), r.IntN(200000)-50000, r.Uint32(), more...)
		checkLaid(t, ask)
		checkTaken(t, plainForm(ask), ask)
		answer := bootp.Answer(r.IntN(256), ask, r.Uint32(), r.Uint32(), more...)
		checkLaid(t, answer)
		checkTaken(t, plainForm(answer), answer)
		if !bytes.Equal(answer.Mac[:], ask.Mac[:]) || answer.Xid != ask.Xid {
			t.Errorf("an answer to another one: %v to %v", answer, ask)
		}
	}
	checkUnlaid(t, bootp.Ask(1, station(), 0, 0, 0, opt(53, 1)), api.ErrOption)
	checkUnlaid(t, bootp.Answer(1, chapterMessage(), 0, 0, opt(54, 1)), api.ErrOption)
	checkUnlaid(t, bootp.Ask(1, station(), 0, 0, 0, opt(52, 1)), api.ErrBoth)
	checkUnlaid(t, bootp.Ask(1, station(), 0, 0, 0, row(60, 64, 0)...), api.ErrLong)
	checkLaid(t, bootp.Ask(1, station(), 0, 0, 0, row(60, 63, 0)...))
}
