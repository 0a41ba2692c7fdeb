package hold_test

import (
	"testing"

	"slipway/hold"
)

// TestSealOfAnother: P19.3: of no bytes, of a beginning, of one more, of as many others, in another order: not sealed, and all goes on from what is there.
func TestSealOfAnother(t *testing.T) {
	for _, image := range []string{"", "a", "ab", "abcd", "abd", "acb", "ABC", "abc\x00", "\x00abc", "abcabc"} {
		p := newPair(t, 9, "abc")
		p.takes(image)
		for range 2 {
			p.seals(false, 0)
			p.unsealed()
			p.has(image)
		}
		p.takes("xy")
		p.has(image + "xy")
		p.refuses("0123456789", 3)
		p.resets(0)
		p.takes("ab")
		p.seals(false, 0)
		p.takes("c")
		p.unsealed()
		p.seals(true, 0)
		p.recorded("abc")
	}
}

// TestSealOfBeginnings: P19.3 and P19.6: asked behind each byte, it is sealed at the wanted one and at no other.
func TestSealOfBeginnings(t *testing.T) {
	r := numbers()
	image := someBytes(r, 200)
	for wanted := range len(image) + 1 {
		p := newPair(t, len(image), image[:wanted])
		for n := range wanted {
			p.seals(false, 0)
			p.takes(image[n : n+1])
		}
		p.unsealed()
		p.seals(true, 0)
		p.recorded(image[:wanted])
	}
}

// TestSealWithOtherDigests: P19.3: every byte of the digest counts.
func TestSealWithOtherDigests(t *testing.T) {
	for i := range 32 {
		for bit := range 8 {
			want := digestOf("abc")
			want[i] ^= 1 << bit
			h := hold.New(3, want)
			h.Add([]byte("abc"))
			ok, err := h.Seal()
			if _, recorded := h.Record(); ok || err != 0 || recorded {
				t.Errorf("byte %d, bit %d: Seal %v, %d, a record: %v", i, bit, ok, err, recorded)
			}
			if err := h.Reset(); err != 0 {
				t.Errorf("byte %d, bit %d: Reset: %d", i, bit, err)
			}
		}
	}
}

// TestSealOfNoBytes: P19.3 and P19.4: the empty image is one, where it is wanted, and none, where it isn't.
func TestSealOfNoBytes(t *testing.T) {
	p := newPair(t, 2, "")
	p.takes("x")
	p.seals(false, 0)
	p.resets(0)
	p.unsealed()
	p.seals(true, 0)
	p.recorded("")
	p.refuses("x", 190)
	p.recorded("")
	q := newPair(t, 2, "x")
	q.seals(false, 0)
	q.unsealed()
}

// TestBehindSeal: P19.2, P19.3 and P19.5: whatever is called behind a Seal that was answered by true, in every order, comes to nothing.
func TestBehindSeal(t *testing.T) {
	calls := []func(p *pair){
		func(p *pair) { p.seals(false, 190) },
		func(p *pair) { p.refuses("x", 190) },
		func(p *pair) { p.refuses("", 190) },
		func(p *pair) { p.resets(190) },
	}
	for row := range 4 * 4 * 4 * 4 {
		p := newPair(t, 4, "abc")
		p.takes("abc")
		p.unsealed()
		p.seals(true, 0)
		for n := row; n > 0; n /= 4 {
			calls[n%4](p)
			p.recorded("abc")
		}
	}
}

// TestSealedIsForGood: P19.3: the wanted image that is there again behind a Reset isn't the record till it is sealed.
func TestSealedIsForGood(t *testing.T) {
	p := newPair(t, 3, "abc")
	p.takes("abc")
	p.resets(0)
	p.unsealed()
	p.seals(false, 0)
	p.takes("abc")
	p.refuses("d", 3)
	p.unsealed()
	p.seals(true, 0)
	p.recorded("abc")
}
