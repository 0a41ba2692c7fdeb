package inet_test

import (
	"testing"

	"slipway/api"
)

// faults are Decode's, in its order.
func faults() []api.Errno {
	return []api.Errno{api.ErrShort, api.ErrVersion, api.ErrOptions, api.ErrLength, api.ErrSum, api.ErrFragment, api.ErrTtl}
}

// broken is the chapter's first bytes with these faults; the sum is right unless it is one of them.
func broken(list ...api.Errno) []byte {
	b := chapterBytes()
	end, wrong := len(b), byte(0)
	for _, fault := range list {
		switch fault {
		case api.ErrShort:
			end = 19
		case api.ErrVersion:
			b[0] ^= 0x20
		case api.ErrOptions:
			b[0] ^= 0x03
		case api.ErrLength:
			b[3] = 19
		case api.ErrSum:
			wrong = 1
		case api.ErrFragment:
			b[6] |= 0x20
		case api.ErrTtl:
			b[8] = 0
		}
	}
	mend(b)
	b[11] ^= wrong
	return b[:end:end]
}

// TestDecodeErrorOrder: P9.2 with R5: of all faults that a head has the first in Decode's order is told, whichever of them stand together.
func TestDecodeErrorOrder(t *testing.T) {
	for set := 1; set < 1<<7; set++ {
		var list []api.Errno
		for i, fault := range faults() {
			if set>>i&1 == 1 {
				list = append(list, fault)
			}
		}
		checkRefused(t, broken(list...), list[0])
	}
	checkTaken(t, broken())
}

// TestDecodeLengthOrder: P9.2: all that is ErrLength lies between ErrOptions and ErrSum.
func TestDecodeLengthOrder(t *testing.T) {
	for _, length := range []int{0, 1, 19, 23, 24, 65535} {
		for first := range 256 {
			b := chapterBytes()
			b[0], b[2], b[3] = byte(first), byte(length/256), byte(length%256)
			want := api.ErrLength
			if first/16 != 4 {
				want = api.ErrVersion
			} else if first%16 > 5 {
				want = api.ErrOptions
			}
			checkRefused(t, b, want)
			checkRefused(t, mend(b), want)
			b[6], b[8] = 0xff, 0
			checkRefused(t, b, want)
			checkRefused(t, mend(b), want)
		}
	}
}

// TestDecodeShortHead: P9.2: a lower half below 5 is ErrLength, though the length would do and the sum is wrong.
func TestDecodeShortHead(t *testing.T) {
	for low := range byte(5) {
		b := chapterBytes()
		b[0] = 0x40 | low
		b[10] ^= 0x80
		checkRefused(t, b, api.ErrLength)
		b[7], b[8] = 9, 0
		checkRefused(t, b, api.ErrLength)
	}
}
