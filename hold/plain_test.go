package hold_test

import (
	"crypto/sha256"

	"slipway/api"
)

// event is what was called and not refused: pieces were added, or all was thrown away.
type event struct {
	reset bool
	piece string
}

// plainHold is the chapter told plainly: the image is worked out anew, each time, from all that was done.
type plainHold struct {
	most   int
	want   [32]byte
	done   []event
	sealed bool
	record string // what it was sealed with
}

// image is what was added since the last Reset that was done.
func (p *plainHold) image() string {
	all := ""
	for _, e := range p.done {
		if e.reset {
			all = ""
		} else {
			all += e.piece
		}
	}
	return all
}

func (p *plainHold) add(piece string) api.Errno {
	if p.sealed {
		return 190
	}
	if len(p.image())+len(piece) > p.most {
		return 3
	}
	p.done = append(p.done, event{piece: piece})
	return 0
}

func (p *plainHold) reset() api.Errno {
	if p.sealed {
		return 190
	}
	p.done = append(p.done, event{reset: true})
	return 0
}

func (p *plainHold) seal() (bool, api.Errno) {
	if p.sealed {
		return false, 190
	}
	image := p.image()
	if sha256.Sum256([]byte(image)) != p.want {
		return false, 0
	}
	p.sealed, p.record = true, image
	return true, 0
}
