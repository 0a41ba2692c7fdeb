package tftp_test

import (
	"fmt"
	"math"
	"math/rand/v2"
	"slices"
	"strings"
	"testing"

	"slipway/api"
	"slipway/tftp"
)

func checkWant(t *testing.T, l []api.Choice, name string, value int, there bool) {
	t.Helper()
	if n, ok := tftp.Want(l, name); n != value || ok != there {
		t.Errorf("Want(%v, %q): %d, %v, want %d, %v", l, name, n, ok, value, there)
	}
}

// TestWant: P17.3: the first of that name, just as it is written, whatever the names and values.
func TestWant(t *testing.T) {
	l := ch("tsize", 5, "foo", -7, "tsize", 6, "", 8, "Foo", math.MaxInt, "blksize", 0, "foo", 9)
	checkWant(t, l, "tsize", 5, true)
	checkWant(t, l, "foo", -7, true)
	checkWant(t, l, "", 8, true)
	checkWant(t, l, "Foo", math.MaxInt, true)
	checkWant(t, l, "blksize", 0, true)
	for _, name := range []string{"windowsize", "Tsize", "TSIZE", "tsiz", "tsize ", "tsize\x00", "FOO", "\x00", "blk\u017fize"} {
		checkWant(t, l, name, 0, false)
	}
	for _, name := range append(known(), "", "foo") {
		checkWant(t, nil, name, 0, false)
		checkWant(t, []api.Choice{}, name, 0, false)
		checkWant(t, ch(name, 3), name, 3, true)
		checkWant(t, ch("x", 1, name, 3), name, 3, true)
		checkWant(t, ch(name, 3, name, 4), name, 3, true)
		checkWant(t, ch(name, math.MinInt), name, math.MinInt, true)
	}
}

func plainWithin(n, least, most int) int {
	switch {
	case n < least:
		return least
	case n > most:
		return most
	}
	return n
}

func plainLesser(x, y int) int {
	if x < y {
		return x
	}
	return y
}

// plainAgree is P17.4.
func plainAgree(asked []api.Choice, block, window, size int) (int, int, []api.Choice) {
	block, window, size = plainWithin(block, 8, 65464), plainWithin(window, 1, 65535), plainWithin(size, 0, 2147483647)
	agreedBlock, agreedWindow := 512, 1
	var l []api.Choice
	came := map[string]int{}
	for _, c := range asked {
		came[c.Name]++
		if came[c.Name] > 1 {
			continue
		}
		if c.Name == "blksize" && c.Value >= 8 {
			agreedBlock = plainLesser(c.Value, block)
			l = append(l, ch("blksize", agreedBlock)...)
		}
		if c.Name == "windowsize" && c.Value >= 1 {
			agreedWindow = plainLesser(c.Value, window)
			l = append(l, ch("windowsize", agreedWindow)...)
		}
		if c.Name == "tsize" {
			l = append(l, ch("tsize", size)...)
		}
	}
	return agreedBlock, agreedWindow, l
}

func checkAgreed(t *testing.T, asked []api.Choice, block, window, size, wantBlock, wantWindow int, want []api.Choice) {
	t.Helper()
	if b, w, l := tftp.Agree(asked, block, window, size); b != wantBlock || w != wantWindow || !slices.Equal(l, want) {
		t.Errorf("Agree(%v, %d, %d, %d): %d, %d, %v, want %d, %d, %v", asked, block, window, size, b, w, l, wantBlock, wantWindow, want)
	}
}

// checkAgree holds Agree against what the chapter says, whatever was asked.
func checkAgree(t *testing.T, asked []api.Choice, block, window, size int) {
	t.Helper()
	wantBlock, wantWindow, want := plainAgree(asked, block, window, size)
	checkAgreed(t, asked, block, window, size, wantBlock, wantWindow, want)
}

// TestAgreeExamples: P17.4, the chapter's table.
func TestAgreeExamples(t *testing.T) {
	checkAgreed(t, ch("blksize", 1428, "foo", 1, "tsize", 0), 1024, 4, 70000, 1024, 1, ch("blksize", 1024, "tsize", 70000))
	checkAgreed(t, ch("windowsize", 8, "blksize", 4), 1024, 4, 9, 512, 4, ch("windowsize", 4))
}

// TestAgreeBlock: P17.4: the lesser of what was asked for and block, which is 8 to 65464; below 8 it is not answered.
func TestAgreeBlock(t *testing.T) {
	for _, block := range append(strange(), -1, 0, 7, 8, 9, 511, 512, 513, 1428, 65463, 65464, 65465, 65535, 65536) {
		most := plainWithin(block, 8, 65464)
		for _, value := range []int{8, 9, 511, 512, 513, 1428, 65463, 65464, 65465, 65536, math.MaxInt32, math.MaxInt32 + 1, math.MaxInt} {
			n := plainLesser(value, most)
			checkAgreed(t, ch("blksize", value), block, 4, 9, n, 1, ch("blksize", n))
		}
		for _, value := range []int{7, 6, 1, 0, -1, -8, math.MinInt} {
			checkAgreed(t, ch("blksize", value), block, 4, 9, 512, 1, nil)
		}
		checkAgreed(t, nil, block, 4, 9, 512, 1, nil)
		checkAgreed(t, ch("tsize", 9, "windowsize", 2), block, 4, 9, 512, 2, ch("tsize", 9, "windowsize", 2))
	}
}

// TestAgreeWindow: P17.4: the lesser of what was asked for and window, which is 1 to 65535; below 1 it is not answered.
func TestAgreeWindow(t *testing.T) {
	for _, window := range append(strange(), -1, 0, 1, 2, 63, 64, 65, 65534, 65535, 65536) {
		most := plainWithin(window, 1, 65535)
		for _, value := range []int{1, 2, 7, 8, 64, 65534, 65535, 65536, 65537, math.MaxInt32, math.MaxInt} {
			n := plainLesser(value, most)
			checkAgreed(t, ch("windowsize", value), 1024, window, 9, 512, n, ch("windowsize", n))
		}
		for _, value := range []int{0, -1, math.MinInt} {
			checkAgreed(t, ch("windowsize", value), 1024, window, 9, 512, 1, nil)
		}
		checkAgreed(t, []api.Choice{}, 1024, window, 9, 512, 1, nil)
	}
}

// TestAgreeSize: P17.4: size, which is 0 to 2147483647, whatever the value that was asked with.
func TestAgreeSize(t *testing.T) {
	for size, want := range map[int]int{math.MinInt: 0, -2147483648: 0, -1: 0, 0: 0, 1: 1, 70000: 70000, 2147483646: 2147483646, 2147483647: 2147483647, 2147483648: 2147483647, 4294967296: 2147483647, math.MaxInt: 2147483647} {
		for _, value := range []int{0, 1, -1, 70000, math.MaxInt32, math.MaxInt32 + 1, math.MinInt, math.MaxInt} {
			checkAgreed(t, ch("tsize", value), 1024, 4, size, 512, 1, ch("tsize", want))
		}
		checkAgreed(t, ch("blksize", 100), 1024, 4, size, 100, 1, ch("blksize", 100))
	}
}

// TestAgreeOrder: P17.4: in the order in which they were asked for, of each name the first alone, others left out.
func TestAgreeOrder(t *testing.T) {
	asked, said := ch("blksize", 1428, "windowsize", 8, "tsize", 0), ch("blksize", 1024, "windowsize", 4, "tsize", 77)
	for _, o := range [][3]int{{0, 1, 2}, {0, 2, 1}, {1, 0, 2}, {1, 2, 0}, {2, 0, 1}, {2, 1, 0}} {
		a := []api.Choice{asked[o[0]], asked[o[1]], asked[o[2]]}
		want := []api.Choice{said[o[0]], said[o[1]], said[o[2]]}
		checkAgreed(t, a, 1024, 4, 77, 1024, 4, want)
		checkAgreed(t, slices.Concat(a, ch("blksize", 9, "tsize", 9, "windowsize", 2)), 1024, 4, 77, 1024, 4, want)
		checkAgreed(t, slices.Concat(ch("foo", 1), a[:1], ch("", 8, "foo", 2), a[1:], ch("Tsize", 3)), 1024, 4, 77, 1024, 4, want)
	}
	checkAgreed(t, ch("blksize", 7, "blksize", 100), 1024, 4, 9, 512, 1, nil)
	checkAgreed(t, ch("blksize", 100, "blksize", 7), 1024, 4, 9, 100, 1, ch("blksize", 100))
	checkAgreed(t, ch("windowsize", 0, "tsize", 1, "windowsize", 3), 1024, 4, 9, 512, 1, ch("tsize", 9))
	checkAgreed(t, ch("windowsize", 2, "windowsize", 3, "windowsize", 0), 1024, 4, 9, 512, 2, ch("windowsize", 2))
	checkAgreed(t, ch("tsize", 1, "tsize", 2), 1024, 4, 9, 512, 1, ch("tsize", 9))
	for _, name := range append(strangers(), "BLKSIZE", "Windowsize", "tsizE", "tsize\x00") {
		checkAgreed(t, ch(name, 100), 1024, 4, 9, 512, 1, nil)
		checkAgreed(t, ch(name, 100, "blksize", 99, name, 98), 1024, 4, 9, 99, 1, ch("blksize", 99))
	}
}

// plainAccept is P17.5.
func plainAccept(asked, answer []api.Choice, most int) (int, int, api.Errno) {
	first := map[string]int{}
	for _, c := range asked {
		if _, ok := first[c.Name]; !ok {
			first[c.Name] = c.Value
		}
	}
	block, window, size := 512, 1, math.MinInt
	came := map[string]int{}
	for _, c := range answer {
		value, ok := first[c.Name]
		came[c.Name]++
		bad := !ok || came[c.Name] > 1
		switch c.Name {
		case "blksize":
			bad = bad || c.Value < 8 || c.Value > value
			block = c.Value
		case "windowsize":
			bad = bad || c.Value < 1 || c.Value > value
			window = c.Value
		case "tsize":
			bad = bad || c.Value < 0
			size = c.Value
		default:
			bad = true
		}
		if bad {
			return 0, 0, 172
		}
	}
	if size > most {
		return 0, 0, 2
	}
	return block, window, 0
}

func checkAccepted(t *testing.T, asked, answer []api.Choice, most, wantBlock, wantWindow int, want api.Errno) {
	t.Helper()
	if b, w, e := tftp.Accept(asked, answer, most); b != wantBlock || w != wantWindow || e != want {
		t.Errorf("Accept(%v, %v, %d): %d, %d, %d, want %d, %d, %d", asked, answer, most, b, w, e, wantBlock, wantWindow, want)
	}
}

// checkUnaccepted: an error, beside which there is nothing.
func checkUnaccepted(t *testing.T, asked, answer []api.Choice, most int, want api.Errno) {
	t.Helper()
	checkAccepted(t, asked, answer, most, 0, 0, want)
}

// checkAccept holds Accept against what the chapter says, whatever was asked and answered.
func checkAccept(t *testing.T, asked, answer []api.Choice, most int) api.Errno {
	t.Helper()
	block, window, err := plainAccept(asked, answer, most)
	checkAccepted(t, asked, answer, most, block, window, err)
	return err
}

func full() []api.Choice { return ch("blksize", 1428, "windowsize", 8, "tsize", 0) }

// TestAcceptExamples: P17.5, the chapter's table.
func TestAcceptExamples(t *testing.T) {
	asked, answer := ch("blksize", 1428, "tsize", 0), ch("blksize", 1024, "tsize", 70000)
	checkAccepted(t, asked, answer, 100000, 1024, 1, api.OK)
	checkUnaccepted(t, asked, answer, 69999, api.ErrLong)
	checkUnaccepted(t, ch("tsize", 0), ch("blksize", 8), 9, api.ErrChoice)
	checkUnaccepted(t, ch("blksize", 100), ch("blksize", 101), 9, api.ErrChoice)
	for _, l := range [][]api.Choice{nil, {}, full(), ch("foo", 1), ch("blksize", -1, "blksize", 3), ch("windowsize", 0)} {
		checkAccepted(t, l, nil, 9, 512, 1, api.OK)
		checkAccepted(t, l, []api.Choice{}, -1, 512, 1, api.OK)
	}
}

// TestAcceptBlock: P17.5: 8 to what was asked for, first.
func TestAcceptBlock(t *testing.T) {
	for _, asked := range []int{math.MinInt, -1, 0, 7, 8, 9, 512, 1428, 65464, 65465, math.MaxInt32, math.MaxInt} {
		for _, n := range []int{math.MinInt, -1, 0, 1, 7, 8, 9, asked - 1, asked, asked + 1, 65464, 65465, math.MaxInt} {
			for _, l := range [][]api.Choice{ch("blksize", asked), ch("foo", 1, "blksize", asked, "blksize", math.MaxInt), ch("blksize", asked, "blksize", 8)} {
				if n >= 8 && n <= asked {
					checkAccepted(t, l, ch("blksize", n), 9, n, 1, api.OK)
				} else {
					checkUnaccepted(t, l, ch("blksize", n), 9, api.ErrChoice)
				}
			}
		}
	}
}

// TestAcceptWindow: P17.5: 1 to what was asked for, first.
func TestAcceptWindow(t *testing.T) {
	for _, asked := range []int{math.MinInt, -1, 0, 1, 2, 64, 65535, 65536, math.MaxInt32, math.MaxInt} {
		for _, n := range []int{math.MinInt, -1, 0, 1, 2, asked - 1, asked, asked + 1, 65535, 65536, math.MaxInt} {
			for _, l := range [][]api.Choice{ch("windowsize", asked), ch("foo", 1, "windowsize", asked, "windowsize", math.MaxInt), ch("windowsize", asked, "windowsize", 1)} {
				if n >= 1 && n <= asked {
					checkAccepted(t, l, ch("windowsize", n), 9, 512, n, api.OK)
				} else {
					checkUnaccepted(t, l, ch("windowsize", n), 9, api.ErrChoice)
				}
			}
		}
	}
}

// TestAcceptSize: P17.5: 0 to most, whatever it was asked with: below 0 is ErrChoice, above most ErrLong.
func TestAcceptSize(t *testing.T) {
	for _, value := range []int{math.MinInt, -1, 0, 1, 70000, math.MaxInt} {
		for _, most := range []int{math.MinInt, -1, 0, 1, 9, 70000, math.MaxInt32, math.MaxInt - 1, math.MaxInt} {
			for _, size := range []int{math.MinInt, -1, 0, 1, 8, 9, 10, 70000, most - 1, most, most + 1, math.MaxInt} {
				want := api.OK
				switch {
				case size < 0:
					want = api.ErrChoice
				case size > most:
					want = api.ErrLong
				}
				if want == api.OK {
					checkAccepted(t, ch("tsize", value), ch("tsize", size), most, 512, 1, want)
				} else {
					checkUnaccepted(t, ch("tsize", value), ch("tsize", size), most, want)
				}
			}
			checkAccepted(t, ch("tsize", value), nil, most, 512, 1, api.OK)
			checkAccepted(t, ch("tsize", value, "blksize", 9), ch("blksize", 8), most, 8, 1, api.OK)
		}
	}
}

// TestAcceptNames: P17.5: names that are not known, that were not asked for, or that come twice, are ErrChoice.
func TestAcceptNames(t *testing.T) {
	for _, name := range append(strangers(), "BLKSIZE", "Windowsize", "tsizE", "tsize\x00") {
		checkUnaccepted(t, ch(name, 9), ch(name, 9), 99, api.ErrChoice)
		checkUnaccepted(t, full(), ch(name, 9), 99, api.ErrChoice)
		checkUnaccepted(t, append(full(), ch(name, 9)...), ch("tsize", 9, name, 9), 99, api.ErrChoice)
		checkUnaccepted(t, append(full(), ch(name, 9)...), ch(name, 9, "tsize", 9), 99, api.ErrChoice)
	}
	for _, name := range known() {
		others := slices.DeleteFunc(full(), func(c api.Choice) bool { return c.Name == name })
		checkUnaccepted(t, others, ch(name, 8), 99, api.ErrChoice)
		checkUnaccepted(t, nil, ch(name, 8), 99, api.ErrChoice)
		checkUnaccepted(t, append(others, ch(strings.ToUpper(name), 8)...), ch(name, 8), 99, api.ErrChoice)
		checkUnaccepted(t, full(), ch(name, 8, name, 8), 99, api.ErrChoice)
		checkUnaccepted(t, append(full(), full()...), ch(name, 8, name, 8), 99, api.ErrChoice)
		checkAccept(t, full(), ch(name, 8), 99)
		for _, c := range others {
			checkUnaccepted(t, full(), ch(name, 8, c.Name, 8, name, 8), 99, api.ErrChoice)
			checkAccept(t, full(), ch(name, 8, c.Name, 8), 99)
		}
	}
}

// TestAcceptOrder: P17.5: choices in any order; a tsize above most is told behind all other faults, wherever it stands.
func TestAcceptOrder(t *testing.T) {
	for _, o := range [][3]int{{0, 1, 2}, {0, 2, 1}, {1, 0, 2}, {1, 2, 0}, {2, 0, 1}, {2, 1, 0}} {
		l := ch("blksize", 100, "windowsize", 3, "tsize", 50)
		answer := []api.Choice{l[o[0]], l[o[1]], l[o[2]]}
		checkAccepted(t, full(), answer, 50, 100, 3, api.OK)
		checkUnaccepted(t, full(), answer, 49, api.ErrLong)
		for _, bad := range ch("blksize", 7, "blksize", 1429, "windowsize", 0, "windowsize", 9, "foo", 1, "tsize", 50) {
			checkUnaccepted(t, full(), append(slices.Clone(answer), bad), 49, api.ErrChoice)
			checkUnaccepted(t, full(), append([]api.Choice{bad}, answer...), 49, api.ErrChoice)
			turned := slices.Clone(answer)
			for i := range turned {
				if turned[i].Name == bad.Name && bad.Name != "tsize" {
					turned[i] = bad
					checkUnaccepted(t, full(), turned, 49, api.ErrChoice)
					checkUnaccepted(t, full(), turned, 50, api.ErrChoice)
				}
			}
		}
	}
	checkUnaccepted(t, full(), ch("tsize", -1), -5, api.ErrChoice)
	checkUnaccepted(t, full(), ch("tsize", 0), -5, api.ErrLong)
}

// someChoices are any, with unknown names, names twice, values at edges.
func someChoices(r *rand.Rand) []api.Choice {
	var l []api.Choice
	for range r.IntN(6) {
		name := pick(r, "blksize", "windowsize", "tsize", "blksize", "windowsize", "tsize", "blksize", "windowsize", "tsize", "foo", "", "TSIZE")
		value := pick(r, -1, 0, 1, 2, 7, 8, 9, 64, 512, 1428, 65464, 65465, 65535, 65536, math.MaxInt32, math.MaxInt32+1, math.MaxInt, math.MinInt, r.IntN(70000))
		l = append(l, api.Choice{Name: name, Value: value})
	}
	return l
}

// someSize is one of those at which a bound stands, or another one.
func someSize(r *rand.Rand) int {
	return pick(r, -1, 0, 1, 7, 8, 9, 512, 1428, 65464, 65465, 65535, 65536, math.MaxInt32, math.MaxInt32+1, math.MinInt, math.MaxInt, r.IntN(70000))
}

// TestChoicesAny: P17.3 to P17.5 with anything asked and answered.
func TestChoicesAny(t *testing.T) {
	r := draws()
	many := map[api.Errno]int{}
	for range 60000 {
		asked, answer := someChoices(r), someChoices(r)
		checkAgree(t, asked, someSize(r), someSize(r), someSize(r))
		if r.IntN(3) > 0 {
			_, _, answer = plainAgree(asked, someSize(r), someSize(r), someSize(r))
			if len(answer) > 0 && r.IntN(3) == 0 {
				answer[r.IntN(len(answer))].Value = someSize(r)
			}
		}
		many[checkAccept(t, asked, answer, someSize(r))]++
	}
	for _, e := range []api.Errno{api.OK, api.ErrChoice, api.ErrLong} {
		if many[e] < 1000 {
			t.Errorf("how often each error came: %v", many)
		}
	}
}

// TestAgreedIsAccepted: P17.6: what a server agrees to the client takes, with the same block and window, if the size is 0 to most; a block is at most 65464, and what was asked for.
func TestAgreedIsAccepted(t *testing.T) {
	r := draws()
	for range 60000 {
		asked, size := someChoices(r), r.IntN(1<<31)
		block, window, answer := tftp.Agree(asked, someSize(r), someSize(r), size)
		for _, most := range []int{size, size + 1, math.MaxInt32, math.MaxInt} {
			checkAccepted(t, asked, answer, most, block, window, api.OK)
		}
		if _, ok := tftp.Want(answer, "tsize"); ok && size > 0 {
			checkUnaccepted(t, asked, answer, size-1, api.ErrLong)
		}
		top := 512
		if n, ok := tftp.Want(asked, "blksize"); ok && n >= 8 {
			top = min(n, 65464)
		}
		if block > top || block < 8 || window < 1 || window > 65535 {
			t.Errorf("Agree(%v): %d, %d", asked, block, window)
		}
	}
}

// TestAgreedOverTheWire: P17.6: asked, read, agreed to, read and accepted: both ends have the same.
func TestAgreedOverTheWire(t *testing.T) {
	r := draws()
	for range 20000 {
		asked, size := someKnown(r), r.IntN(1<<31)
		b, e := tftp.Encode(api.Tftp{Op: 1, File: "f", Mode: "octet", Choices: asked})
		p, e2 := tftp.Decode(b)
		block, window, answer := tftp.Agree(p.Choices, someSize(r), someSize(r), size)
		b, e3 := tftp.Encode(api.Tftp{Op: 6, Choices: answer})
		q, e4 := tftp.Decode(b)
		if fmt.Sprint(e, e2, e3, e4) != "0 0 0 0" {
			t.Fatalf("asked %v: %d %d %d %d", asked, e, e2, e3, e4)
		}
		checkAccepted(t, asked, q.Choices, size, block, window, api.OK)
	}
}
