package hold_test

import (
	"testing"

	"slipway/hold"
)

// TestExampleOfNew: P19.1, the chapter's first row.
func TestExampleOfNew(t *testing.T) {
	d := digestOf("abc")
	if hold.New(-1, d) != nil || hold.New(16777217, d) != nil || hold.New(16777216, d) == nil {
		t.Error("New")
	}
}

// TestExamples: P19.1 to P19.4, the rows of the hold for four bytes that wants "abc".
func TestExamples(t *testing.T) {
	p := newPair(t, 4, "abc")
	if n, most := p.hold.Len(), p.hold.Most(); n != 0 || most != 4 {
		t.Errorf("Len %d, Most %d, want 0, 4", n, most)
	}
	p.unsealed()
	p.seals(false, 0)
	p.takes("ab")
	p.refuses("cde", 3)
	p.takes("c")
	p.has("abc")
	if p.hold.Sum() != digestOf("abc") {
		t.Error("Sum")
	}
	p.seals(true, 0)
	p.recorded("abc")
	p.seals(false, 190)
	p.refuses("", 190)
	p.refuses("d", 190)
	p.resets(190)
	p.recorded("abc")
}

// TestExampleOfAnother: P19.2 and P19.3: an image with another digest is thrown away, and the wanted one comes.
func TestExampleOfAnother(t *testing.T) {
	p := newPair(t, 4, "abc")
	p.takes("abd")
	p.seals(false, 0)
	p.has("abd")
	p.resets(0)
	p.takes("abc")
	p.seals(true, 0)
	p.recorded("abc")
}

// TestExampleOfNothing: P19.1 to P19.4: the record of no bytes is one.
func TestExampleOfNothing(t *testing.T) {
	p := newPair(t, 0, "")
	p.takes("")
	p.refuses("x", 3)
	p.seals(true, 0)
	p.recorded("")
}
