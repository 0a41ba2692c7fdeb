package hold_test

import (
	"math"
	"testing"

	"slipway/hold"
)

// TestNewRefuses: P19.1: none for fewer than 0 bytes, and none for more than MaxImage.
func TestNewRefuses(t *testing.T) {
	for _, most := range []int{math.MinInt, math.MinInt + 1, -16777216, -2, -1, 16777217, 16777218, 1 << 31, 1 << 32, math.MaxInt - 1, math.MaxInt} {
		if hold.New(most, digestOf("abc")) != nil {
			t.Errorf("New(%d): a hold, want nil", most)
		}
	}
}

// TestNewTakes: P19.1 and P19.4: else one without bytes, not sealed, whatever digest is wanted.
func TestNewTakes(t *testing.T) {
	for _, most := range []int{0, 1, 2, 512, 65535, 65536, 16777215, 16777216} {
		for _, want := range [][32]byte{{}, digestOf(""), digestOf("abc"), {31: 255}} {
			h := hold.New(most, want)
			if h == nil {
				t.Errorf("New(%d): nil", most)
				continue
			}
			record, ok := h.Record()
			if h.Len() != 0 || h.Most() != most || h.Sum() != digestOf("") || len(h.Bytes()) != 0 || len(record) != 0 || ok {
				t.Errorf("New(%d): Len %d, Most %d, Sum %x, Bytes %x, Record %x, %v", most, h.Len(), h.Most(), h.Sum(), h.Bytes(), record, ok)
			}
		}
	}
}

// TestNewIsNotSealed: P19.1 and P19.3: a hold that wants no bytes has no record ahead of Seal.
func TestNewIsNotSealed(t *testing.T) {
	for _, most := range []int{0, 1, 16777216} {
		p := newPair(t, most, "")
		p.unsealed()
		p.takes("", "")
		p.resets(0)
		p.unsealed()
		p.seals(true, 0)
		p.recorded("")
		p.refuses("", 190)
		p.resets(190)
		p.seals(false, 190)
	}
}
