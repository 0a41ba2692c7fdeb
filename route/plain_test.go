package route_test

import (
	"math/rand/v2"
	"testing"

	"slipway/api"
	"slipway/octet"
	"slipway/route"
)

// draws is the same row of numbers at each run: a fault that it shows can be looked at again.
func draws() *rand.Rand { return rand.New(rand.NewPCG(10, 1)) }

// address is one by its text.
func address(t *testing.T, s string) uint32 {
	t.Helper()
	ip, e := octet.Undotted(s)
	if e != api.OK {
		t.Fatalf("%q is no address", s)
	}
	return ip
}

// maskOf has that many ones, 0 to 32, ahead.
func maskOf(ones int) uint32 {
	m := uint32(0)
	for i := range ones {
		m += 1 << (31 - i)
	}
	return m
}

// plain is what a table has, told by counting: a net is a row of addresses, from its own one on.
type plain struct {
	ip, router uint32
	ones       int // -1: it has none
}

func nothing() plain { return plain{ones: -1} }

// rowOf is the first and the last address of the net of ip with that many ones.
func rowOf(ip uint32, ones int) (uint64, uint64) {
	size := uint64(1) << (32 - ones)
	first := uint64(ip) / size * size
	return first, first + size - 1
}

func (p plain) inNet(ip uint32) bool {
	first, last := rowOf(p.ip, p.ones)
	return first <= uint64(ip) && uint64(ip) <= last
}

func (p plain) broadcast(ip uint32) bool {
	_, last := rowOf(p.ip, p.ones)
	return p.ones <= 30 && uint64(ip) == last
}

func (p plain) hostOfNet(ip uint32) bool {
	first, _ := rowOf(p.ip, p.ones)
	own := p.ones <= 30 && uint64(ip) == first
	return hosts(ip) && p.inNet(ip) && !own && !p.broadcast(ip)
}

// hosts tells by the first byte whether an address may be one host's.
func hosts(ip uint32) bool {
	first := ip / (1 << 24)
	return first != 0 && first != 127 && first <= 223
}

// plainOnes is how many ones a mask has; -1, if it is none.
func plainOnes(mask uint32) int {
	for ones := range 33 {
		if maskOf(ones) == mask {
			return ones
		}
	}
	return -1
}

// set is P10.1, line by line.
func (p *plain) set(ip, mask, router uint32) api.Errno {
	want := plain{ip, router, plainOnes(mask)}
	if !hosts(ip) {
		return 101
	}
	if want.ones < 1 {
		return 100
	}
	if !want.hostOfNet(ip) {
		return 101
	}
	if router != 0 && !want.hostOfNet(router) || router == ip {
		return 102
	}
	*p = want
	return 0
}

// takes is P10.2.
func (p plain) takes(dst uint32) bool {
	if dst == 0xffffffff {
		return true
	}
	return p.ones != -1 && (dst == p.ip || p.broadcast(dst))
}

// hop is P10.3, line by line.
func (p plain) hop(dst uint32) (int, uint32) {
	if dst == 0xffffffff {
		return 1, dst
	}
	if !hosts(dst) || p.ones == -1 || dst == p.ip {
		return 0, 0
	}
	if p.broadcast(dst) {
		return 1, dst
	}
	if p.inNet(dst) {
		return 2, dst
	}
	if p.router != 0 {
		return 3, p.router
	}
	return 0, 0
}

// pair is a table and what the chapter says of it.
type pair struct {
	t     *testing.T
	table *route.Table
	plain plain
}

func newPair(t *testing.T) *pair {
	t.Helper()
	p := &pair{t, route.New(), nothing()}
	if p.table == nil {
		t.Fatal("New: nil")
	}
	return p
}

// set sets both, and tells what the chapter asks for.
func (p *pair) set(ip, mask, router uint32) api.Errno {
	p.t.Helper()
	want := p.plain.set(ip, mask, router)
	if got := p.table.Set(ip, mask, router); got != want {
		p.t.Errorf("Set(%s, %s, %s): %d, want %d", octet.Dotted(ip), octet.Dotted(mask), octet.Dotted(router), got, want)
	}
	return want
}

func (p *pair) clear() {
	p.table.Clear()
	p.plain = nothing()
}

// look holds the table against the chapter at each of these addresses.
func (p *pair) look(what string, list []uint32) {
	p.t.Helper()
	if got := p.table.Own(); got != p.plain.ip {
		p.t.Errorf("%s: Own: %s, want %s", what, octet.Dotted(got), octet.Dotted(p.plain.ip))
	}
	for _, dst := range list {
		if got := p.table.Takes(dst); got != p.plain.takes(dst) {
			p.t.Errorf("%s: %v: Takes(%s): %v", what, p.plain, octet.Dotted(dst), got)
		}
		way, to := p.table.Hop(dst)
		if wantWay, wantTo := p.plain.hop(dst); way != wantWay || to != wantTo {
			p.t.Errorf("%s: %v: Hop(%s): %d, %s, want %d, %s", what, p.plain, octet.Dotted(dst), way, octet.Dotted(to), wantWay, octet.Dotted(wantTo))
		}
	}
}

// odd are addresses at the edges of what may be a host's, and beyond.
func odd() []uint32 {
	list := []uint32{}
	for _, first := range []uint32{0, 1, 10, 63, 64, 126, 127, 128, 191, 192, 223, 224, 239, 240, 255} {
		for _, rest := range []uint32{0, 1, 2, 5, 0x00ffff, 0xfffffe, 0xffffff} {
			list = append(list, first<<24+rest)
		}
	}
	return list
}

// about are addresses in the net of ip with that many ones, at its edges and beside them, and odd ones.
func about(ip uint32, ones int) []uint32 {
	first, last := rowOf(ip, ones)
	list := append(odd(), ip, ip-1, ip+1)
	for d := range uint64(4) {
		list = append(list, uint32(first+d), uint32(first-d), uint32(last+d), uint32(last-d))
	}
	for bit := range 32 {
		list = append(list, ip^1<<bit)
	}
	return list
}
