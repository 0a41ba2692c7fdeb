// Package octet is layer 1: numbers as bytes, the internet's sum, addresses as text, masks. See shared/doc/01-octet.md.
package octet

import (
	"math/bits"
	"strconv"

	"slipway/api"
)

const (
	mostWidth   = 8      // bytes of the widest number
	wordMost    = 0xffff // the greatest word
	colonsWidth = 3      // a byte's two digits and the colon behind them
	digits      = "0123456789abcdef"
)

// Put lays the lowest width bytes of n, the highest first (width 1 to 8; else none).
func Put(n uint64, width int) []byte {
	if !isWidth(width) {
		return nil
	}
	b := make([]byte, width)
	for i := range b {
		b[width-1-i] = byte(n >> (8 * i))
	}
	return b
}

// Get reads the number that Put lays as the width bytes from the place at on.
func Get(b []byte, at, width int) (uint64, api.Errno) {
	if !isWidth(width) || at < 0 {
		return 0, api.ErrArg
	}
	// at stands alone on its side: at+width may go round.
	if at > len(b)-width {
		return 0, api.ErrShort
	}
	n := uint64(0)
	for i := range width {
		n = n<<8 | uint64(b[at+i])
	}
	return n, api.OK
}

func isWidth(width int) bool { return width >= 1 && width <= mostWidth }

// Sum is the internet's sum of all parts, one behind the other.
func Sum(parts ...[]byte) uint16 {
	total := uint64(0)
	high := true // kept across parts: a word may begin in one and end in another
	for _, part := range parts {
		for _, b := range part {
			if high {
				total += uint64(b) << 8
			} else {
				total += uint64(b)
			}
			high = !high
		}
	}
	return wordMost - fold(total)
}

// Turn is what a sum becomes when the word old is changed into now.
func Turn(sum, old, now uint16) uint16 {
	return wordMost - fold(uint64(wordMost-sum)+uint64(wordMost-old)+uint64(now))
}

func fold(u uint64) uint16 {
	for u > wordMost {
		u = u&wordMost + u>>16
	}
	return uint16(u)
}

// Dotted is an address as text.
func Dotted(ip uint32) string {
	s := ""
	for i, b := range Put(uint64(ip), 4) {
		if i > 0 {
			s += "."
		}
		s += strconv.Itoa(int(b))
	}
	return s
}

// Undotted reads an address; of all texts it takes just those that Dotted tells.
func Undotted(s string) (uint32, api.Errno) {
	ip := looseAddress(s)
	if Dotted(ip) != s {
		return 0, api.ErrText
	}
	return ip, api.OK
}

// looseAddress reads what Dotted tells, and makes something of any other text: Undotted holds it against s, so that no rule of the text is written twice.
func looseAddress(s string) uint32 {
	ip, part := uint32(0), uint32(0)
	for i := range len(s) {
		if s[i] == '.' {
			ip, part = ip<<8|part, 0
		} else {
			part = part*10 + uint32(s[i]-'0')
		}
	}
	return ip<<8 | part
}

// Colons is a station's address as text.
func Colons(m api.Mac) string {
	b := make([]byte, 0, len(m)*colonsWidth)
	for i, x := range m {
		if i > 0 {
			b = append(b, ':')
		}
		b = append(b, digits[x>>4], digits[x&15])
	}
	return string(b)
}

// Uncolons reads a station's address; of all texts it takes just those that Colons tells.
func Uncolons(s string) (api.Mac, api.Errno) {
	m := looseStation(s)
	if Colons(m) != s {
		return api.Mac{}, api.ErrText
	}
	return m, api.OK
}

// looseStation reads what Colons tells, and makes something of any other text: Uncolons holds it against s.
func looseStation(s string) api.Mac {
	m := api.Mac{}
	if len(s) != len(m)*colonsWidth-1 {
		return m
	}
	for i := range m {
		m[i] = looseDigit(s[i*colonsWidth])<<4 | looseDigit(s[i*colonsWidth+1])
	}
	return m
}

func looseDigit(c byte) byte {
	if c >= 'a' {
		return c - 'a' + 10
	}
	return c - '0'
}

// Everyone is the address of all stations.
func Everyone() api.Mac { return api.Mac{0xff, 0xff, 0xff, 0xff, 0xff, 0xff} }

// Group tells whether an address is that of several stations.
func Group(m api.Mac) bool { return m[0]&1 == 1 }

// IsMask tells whether m is ones and then zeros.
func IsMask(m uint32) bool { return Ones(m) != -1 }

// Ones is how many ones a mask has (-1: m is none).
func Ones(m uint32) int {
	n := bits.LeadingZeros32(^m)
	if m<<n != 0 {
		return -1
	}
	return n
}

// IsHost tells whether an address may be one host's.
func IsHost(ip uint32) bool {
	first := ip >> 24
	return first >= 1 && first <= 223 && first != 127
}
