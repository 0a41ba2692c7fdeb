package option_test

import (
	"bytes"
	"math"
	"testing"

	"slipway/api"
	"slipway/option"
)

// TestFindExamples: P15.3, the chapter's table.
func TestFindExamples(t *testing.T) {
	if b, ok := option.Find(list(opt(53, 1), opt(53, 2)), 53); !ok || !bytes.Equal(b, []byte{1}) {
		t.Errorf("Find: % x, %v", b, ok)
	}
	if b, ok := option.Find(nil, 53); ok || len(b) != 0 {
		t.Errorf("Find of none: % x, %v", b, ok)
	}
	if n, ok := option.Number(list(opt(51, 0, 0, 0x0e, 0x10)), 51); !ok || n != 3600 {
		t.Errorf("Number of four bytes: %d, %v", n, ok)
	}
	if n, ok := option.Number(list(opt(51, 0x0e, 0x10)), 51); ok || n != 0 {
		t.Errorf("Number of two bytes: %d, %v", n, ok)
	}
	if n, ok := option.Small(list(opt(53, 5)), 53); !ok || n != 5 {
		t.Errorf("Small of one byte: %d, %v", n, ok)
	}
	if n, ok := option.Small(list(opt(53, 5, 6)), 53); ok || n != 0 {
		t.Errorf("Small of two bytes: %d, %v", n, ok)
	}
}

// TestAskedLengths: P15.3: of all lengths Number takes just four bytes and Small just one; Find tells any.
func TestAskedLengths(t *testing.T) {
	for n := range 600 {
		for _, data := range [][]byte{make([]byte, n), bytes.Repeat([]byte{255}, n), someData(n)} {
			l := list(opt(51, data...), opt(52, 7))
			checkAsked(t, l, 51)
			checkAsked(t, l, 52)
			checkAsked(t, l, 53)
		}
	}
	checkAsked(t, list(opt(51)), 51)
	checkAsked(t, list(api.Option{Code: 51, Data: []byte{}}), 51)
	if b, ok := option.Find(list(opt(51)), 51); !ok || len(b) != 0 {
		t.Errorf("Find of an option without bytes: % x, %v", b, ok)
	}
}

// TestAskedNumbers: P15.3: the highest byte comes first, and all values come back.
func TestAskedNumbers(t *testing.T) {
	if n, ok := option.Number(list(opt(51, 0x12, 0x34, 0x56, 0x78)), 51); !ok || n != 0x12345678 {
		t.Errorf("Number: %x, %v", n, ok)
	}
	if n, ok := option.Number(list(opt(51, 255, 255, 255, 255)), 51); !ok || n != math.MaxUint32 {
		t.Errorf("Number: %x, %v", n, ok)
	}
	if n, ok := option.Number(list(opt(51, 0, 0, 0, 0)), 51); !ok || n != 0 {
		t.Errorf("Number: %x, %v", n, ok)
	}
	for x := range 256 {
		if n, ok := option.Small(list(opt(53, byte(x))), 53); !ok || n != x {
			t.Errorf("Small of %d: %d, %v", x, n, ok)
		}
	}
}

// TestAskedTwice: P15.3: the first option of a code is meant, though a later one would have the right length.
func TestAskedTwice(t *testing.T) {
	for _, first := range []int{0, 1, 2, 3, 4, 5} {
		for _, second := range []int{0, 1, 2, 3, 4, 5} {
			one, two := someData(first), bytes.Repeat([]byte{9}, second)
			checkAsked(t, list(opt(53, one...), opt(53, two...)), 53)
			checkAsked(t, list(opt(1, 1), opt(53, one...), opt(2, 2), opt(53, two...), opt(53, one...)), 53)
			n, ok := option.Number(list(opt(53, one...), opt(53, two...)), 53)
			if ok != (first == 4) || !ok && n != 0 {
				t.Errorf("Number of %d and %d bytes: %d, %v", first, second, n, ok)
			}
			m, ok := option.Small(list(opt(53, one...), opt(53, two...)), 53)
			if ok != (first == 1) || !ok && m != 0 {
				t.Errorf("Small of %d and %d bytes: %d, %v", first, second, m, ok)
			}
		}
	}
}

// TestAskedCodes: P15.3: any code, such that no option may have with them, in lists that Pack would refuse, too; no code is taken for another whose lowest bits are the same.
func TestAskedCodes(t *testing.T) {
	codes := append(strangeCodes(), 1, 2, 52, 53, 54, 128, 253, 254)
	var l []api.Option
	for i, code := range codes {
		l = append(l, opt(code, someData(1+3*(i%2))...))
		for _, asked := range codes {
			checkAsked(t, l, asked)
		}
	}
	for _, code := range codes {
		checkAsked(t, nil, code)
		for _, other := range codes {
			checkAsked(t, list(opt(code, 1), opt(code, 2)), other)
			checkAsked(t, list(opt(code, 1, 2, 3, 4)), other)
		}
	}
	many := append(row(1, 254, 1), row(1, 300, 4)...)
	for code := -5; code < 310; code++ {
		checkAsked(t, many, code)
	}
}

// TestMadeExamples: P15.4, the chapter's table.
func TestMadeExamples(t *testing.T) {
	checkMade(t, option.Numbered(51, 3600), 51, 0, 0, 0x0e, 0x10)
	checkMade(t, option.Byte(53, 261), 53, 5)
}

func checkMade(t *testing.T, o api.Option, code int, data ...byte) {
	t.Helper()
	if o.Code != code || !bytes.Equal(o.Data, data) {
		t.Errorf("made: %v, want {%d %v}", o, code, data)
	}
}

// TestNumbered: P15.4: any code with any number, the highest byte first.
func TestNumbered(t *testing.T) {
	codes := append(strangeCodes(), 1, 53, 254)
	for _, code := range codes {
		checkMade(t, option.Numbered(code, 0), code, 0, 0, 0, 0)
		checkMade(t, option.Numbered(code, 0x12345678), code, 0x12, 0x34, 0x56, 0x78)
		checkMade(t, option.Numbered(code, 0x80000001), code, 0x80, 0, 0, 1)
		checkMade(t, option.Numbered(code, math.MaxUint32), code, 255, 255, 255, 255)
	}
	r := draws()
	for range 5000 {
		n := r.Uint32()
		o := option.Numbered(58, n)
		if got, ok := option.Number(list(o), 58); !ok || got != n {
			t.Errorf("Number of Numbered %d: %d, %v", n, got, ok)
		}
		checkMade(t, o, 58, byte(n/0x1000000), byte(n/0x10000%256), byte(n/256%256), byte(n%256))
	}
}

// TestByte: P15.4: any code with the lowest byte of any number, of such below 0 and above 255, too.
func TestByte(t *testing.T) {
	for n := -1000; n < 1000; n++ {
		checkMade(t, option.Byte(53, n), 53, byte(((n%256)+256)%256))
	}
	codes := append(strangeCodes(), 1, 53, 254)
	for _, code := range codes {
		for _, x := range []struct {
			n    int
			want byte
		}{
			{0, 0}, {1, 1}, {255, 255}, {256, 0}, {261, 5}, {-1, 255}, {-2, 254}, {-255, 1}, {-256, 0}, {-257, 255}, {1<<32 + 7, 7}, {math.MaxInt, 255}, {math.MinInt, 0}, {math.MinInt + 9, 9},
		} {
			checkMade(t, option.Byte(code, x.n), code, x.want)
		}
	}
	for n := range 256 {
		if got, ok := option.Small(list(option.Byte(7, n)), 7); !ok || got != n {
			t.Errorf("Small of Byte %d: %d, %v", n, got, ok)
		}
	}
}
