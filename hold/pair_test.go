package hold_test

import (
	"crypto/sha256"
	"math/rand/v2"
	"testing"

	"slipway/api"
	"slipway/hold"
)

// numbers is the same row at each run: a fault that it shows can be looked at again.
func numbers() *rand.Rand { return rand.New(rand.NewPCG(19, 1)) }

// digestOf is the digest as the library has it.
func digestOf(text string) [32]byte { return sha256.Sum256([]byte(text)) }

// someBytes is a text of n bytes of any kind.
func someBytes(r *rand.Rand, n int) string {
	b := make([]byte, n)
	for i := range b {
		b[i] = byte(r.Uint32())
	}
	return string(b)
}

// short is a text that can be told in a line.
func short(text string) string {
	if len(text) > 40 {
		return text[:40] + ".."
	}
	return text
}

// pair is a hold, and the chapter told plainly beside it: each call goes to both, and all that can be seen is held against each other behind it.
type pair struct {
	t     *testing.T
	hold  *hold.Hold
	plain plainHold
}

// newPair is a hold for at most so many bytes that wants the digest of a text.
func newPair(t *testing.T, most int, wanted string) *pair {
	t.Helper()
	want := digestOf(wanted)
	h := hold.New(most, want)
	if h == nil {
		t.Fatalf("New(%d): nil", most)
	}
	p := &pair{t, h, plainHold{most: most, want: want}}
	p.same("New")
	return p
}

// same holds what can be seen of the two against each other.
func (p *pair) same(what string) {
	p.t.Helper()
	image := p.plain.image()
	if got := string(p.hold.Bytes()); got != image {
		p.t.Fatalf("behind %s: Bytes %q, want %q", what, short(got), short(image))
	}
	if got := p.hold.Len(); got != len(image) {
		p.t.Fatalf("behind %s: Len %d, want %d", what, got, len(image))
	}
	if got := p.hold.Most(); got != p.plain.most {
		p.t.Fatalf("behind %s: Most %d, want %d", what, got, p.plain.most)
	}
	if got, want := p.hold.Sum(), digestOf(image); got != want {
		p.t.Fatalf("behind %s: Sum %x, want %x", what, got, want)
	}
	record, ok := p.hold.Record()
	if string(record) != p.plain.record || ok != p.plain.sealed {
		p.t.Fatalf("behind %s: Record %q, %v, want %q, %v", what, short(string(record)), ok, short(p.plain.record), p.plain.sealed)
	}
}

func (p *pair) add(piece string) api.Errno {
	p.t.Helper()
	what := "Add(" + short(piece) + ")"
	got, want := p.hold.Add([]byte(piece)), p.plain.add(piece)
	if got != want {
		p.t.Fatalf("%s: %d, want %d", what, got, want)
	}
	p.same(what)
	return got
}

func (p *pair) reset() api.Errno {
	p.t.Helper()
	got, want := p.hold.Reset(), p.plain.reset()
	if got != want {
		p.t.Fatalf("Reset: %d, want %d", got, want)
	}
	p.same("Reset")
	return got
}

func (p *pair) seal() (bool, api.Errno) {
	p.t.Helper()
	got, err := p.hold.Seal()
	want, errWanted := p.plain.seal()
	if got != want || err != errWanted {
		p.t.Fatalf("Seal: %v, %d, want %v, %d", got, err, want, errWanted)
	}
	p.same("Seal")
	return got, err
}

// takes adds pieces that must all be taken.
func (p *pair) takes(pieces ...string) {
	p.t.Helper()
	for _, piece := range pieces {
		if err := p.add(piece); err != 0 {
			p.t.Errorf("Add(%s): %d, want 0", short(piece), err)
		}
	}
}

// refuses adds a piece that must be refused.
func (p *pair) refuses(piece string, want api.Errno) {
	p.t.Helper()
	if err := p.add(piece); err != want {
		p.t.Errorf("Add(%s): %d, want %d", short(piece), err, want)
	}
}

// resets throws the image away, which must be answered so.
func (p *pair) resets(want api.Errno) {
	p.t.Helper()
	if err := p.reset(); err != want {
		p.t.Errorf("Reset: %d, want %d", err, want)
	}
}

// seals seals, which must be answered so.
func (p *pair) seals(want bool, errWanted api.Errno) {
	p.t.Helper()
	if ok, err := p.seal(); ok != want || err != errWanted {
		p.t.Errorf("Seal: %v, %d, want %v, %d", ok, err, want, errWanted)
	}
}

// has tells the image that must be there.
func (p *pair) has(image string) {
	p.t.Helper()
	if got := string(p.hold.Bytes()); got != image {
		p.t.Errorf("Bytes: %q, want %q", short(got), short(image))
	}
	if got := p.hold.Len(); got != len(image) {
		p.t.Errorf("Len: %d, want %d", got, len(image))
	}
	if got, want := p.hold.Sum(), digestOf(image); got != want {
		p.t.Errorf("Sum: %x, want %x", got, want)
	}
}

// recorded tells the record that must be there.
func (p *pair) recorded(image string) {
	p.t.Helper()
	if got, ok := p.hold.Record(); string(got) != image || !ok {
		p.t.Errorf("Record: %q, %v, want %q, true", short(string(got)), ok, short(image))
	}
	p.has(image)
}

// unsealed tells that there is no record.
func (p *pair) unsealed() {
	p.t.Helper()
	if got, ok := p.hold.Record(); len(got) != 0 || ok {
		p.t.Errorf("Record: %q, %v, want none, false", short(string(got)), ok)
	}
}
