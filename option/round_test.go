package option_test

import (
	"bytes"
	"math"
	"math/rand/v2"
	"slices"
	"testing"

	"slipway/api"
	"slipway/option"
)

// checkThereAndBack: the list comes back, whatever is laid behind its end.
func checkThereAndBack(t *testing.T, l []api.Option, behind ...[]byte) {
	t.Helper()
	b, e := option.Pack(l, math.MaxInt)
	if e != api.OK {
		t.Fatalf("Pack of %d options: %d", len(l), e)
	}
	checkRead(t, l, b)
	for _, x := range behind {
		checkRead(t, l, slices.Concat(b, x))
	}
}

// TestParseOfPack: P15.5: the list comes back, in its order, Data of all lengths with it.
func TestParseOfPack(t *testing.T) {
	r := draws()
	behind := [][]byte{{0}, {255}, {7}, {7, 200}, {7, 1, 9}, plainBytes(row(1, 254, 1)), someData(300)}
	checkThereAndBack(t, nil, behind...)
	checkThereAndBack(t, row(1, 64, 255), behind...)
	for n := range 1100 {
		checkThereAndBack(t, list(opt(7, someBytes(r, n)...)), behind...)
		checkThereAndBack(t, list(opt(9, make([]byte, n)...), opt(7, bytes.Repeat([]byte{255}, n)...), opt(8)), behind...)
	}
	for i := range 5000 {
		checkThereAndBack(t, someList(r, i%65), someBytes(r, r.IntN(20)))
	}
	checkThereAndBack(t, list(option.Byte(api.OptType, api.Request), option.Numbered(api.OptWanted, 0x0a000005), option.Numbered(api.OptServer, 0x0a000001)))
}

// TestPackOfParse: P15.5: what was told can be laid, and is told again, however it was cut, padded and spread at first.
func TestPackOfParse(t *testing.T) {
	r := draws()
	taken := 0
	for range 10000 {
		var parts [][]byte
		for range r.IntN(4) {
			parts = append(parts, spread(r, someList(r, r.IntN(12))))
		}
		l, e := option.Parse(parts...)
		if e != api.OK {
			t.Fatalf("Parse(% x): %d", parts, e)
		}
		taken += len(l)
		b, e := option.Pack(l, math.MaxInt)
		if e != api.OK {
			t.Fatalf("Pack of what Parse told: %d", e)
		}
		checkRead(t, l, b)
		checkLaid(t, l, len(b), plainBytes(l))
	}
	if taken < 10000 {
		t.Errorf("%d options were told in all", taken)
	}
}

// spread lays options in pieces of any lengths, in any order, with zeros between them, and now and then with an end.
func spread(r *rand.Rand, l []api.Option) []byte {
	var b []byte
	rests := copied(l)
	for len(rests) > 0 {
		i := r.IntN(len(rests))
		o := rests[i]
		n := r.IntN(min(len(o.Data), 255) + 1)
		b = append(b, make([]byte, r.IntN(3))...)
		b = append(b, byte(o.Code), byte(n))
		b = append(b, o.Data[:n]...)
		rests[i].Data = o.Data[n:]
		if n == len(o.Data) {
			rests = slices.Delete(rests, i, i+1)
		}
	}
	if r.IntN(2) == 0 {
		b = append(b, 255)
		b = append(b, someBytes(r, r.IntN(5))...)
	}
	return b
}

// TestParseOfAnyParse: P15.5: of any bytes that are taken.
func TestParseOfAnyParse(t *testing.T) {
	r := draws()
	taken := 0
	for range 50000 {
		b := someBytes(r, 3+r.IntN(30))
		for i := range b {
			b[i] %= 5
		}
		l, e := option.Parse(b)
		if e != api.OK {
			continue
		}
		taken++
		packed, e := option.Pack(l, 2000)
		if e != api.OK {
			t.Fatalf("Pack of what Parse(% x) told: %d", b, e)
		}
		checkRead(t, l, packed)
	}
	if taken < 5000 {
		t.Errorf("%d were taken", taken)
	}
}

// chunks are pieces of options without an end: as parts none of them ends within an option. There may be more than 64 codes among them.
func chunks(r *rand.Rand) [][]byte {
	var parts [][]byte
	for range r.IntN(6) {
		b := plainBytes(someList(r, r.IntN(25)))
		b = b[:len(b)-1]
		parts = append(parts, append(b, make([]byte, r.IntN(3))...))
	}
	return parts
}

// TestParseOfOne: P15.6: parts of whole options tell what their bytes in one tell, with an end in the last one and without, taken and refused.
func TestParseOfOne(t *testing.T) {
	r := draws()
	many := map[api.Errno]int{}
	for i := range 8000 {
		parts := chunks(r)
		if i%2 == 0 {
			parts = append(parts, append([]byte{1, 1, 7, 255}, someBytes(r, r.IntN(9))...))
		}
		l, e := option.Parse(parts...)
		whole, err := option.Parse(slices.Concat(parts...))
		if e != err || !same(l, whole) {
			t.Errorf("Parse(% x): %v, %d; in one: %v, %d", parts, l, e, whole, err)
		}
		many[e]++
	}
	if many[api.OK] < 300 || many[api.ErrLong] < 300 {
		t.Errorf("how often each error came: %v", many)
	}
}

// TestParseOfOneCuts: P15.6: each place between two options may be cut at, and each other place is ErrShort.
func TestParseOfOneCuts(t *testing.T) {
	l := list(opt(53, 1), opt(7), opt(67, someData(300)...), opt(3, 0, 255, 0))
	b := plainBytes(l)
	between := []int{0, 3, 5, 262, 309, 314, 315}
	for cut := range len(b) + 1 {
		if slices.Contains(between, cut) {
			checkRead(t, l, b[:cut], b[cut:])
			checkRead(t, l, b[:cut], nil, b[cut:])
		} else {
			checkUnread(t, api.ErrShort, b[:cut], b[cut:])
		}
	}
}

// TestParseOfOneNot: P15.6: where a part ahead has an end its bytes in one end there, and the parts don't.
func TestParseOfOneNot(t *testing.T) {
	one, two := []byte{7, 1, 1, 255}, []byte{8, 1, 2}
	checkRead(t, list(opt(7, 1), opt(8, 2)), one, two)
	checkRead(t, list(opt(7, 1)), slices.Concat(one, two))
	checkUnread(t, api.ErrShort, []byte{7, 2}, []byte{1, 2})
	checkRead(t, list(opt(7, 1, 2)), []byte{7, 2, 1, 2})
}
