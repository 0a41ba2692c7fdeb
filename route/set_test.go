package route_test

import (
	"fmt"
	"testing"

	"slipway/api"
	"slipway/octet"
	"slipway/route"
)

// TestErrorNumbers: the section Errors.
func TestErrorNumbers(t *testing.T) {
	r := route.New()
	host, mask, way := r.Set(0, 0, 0), r.Set(0x0a000005, 0, 0), r.Set(0x0a000005, 0xffffff00, 1)
	if host != 101 || mask != 100 || way != 102 {
		t.Errorf("errors: %d %d %d, want 101 100 102", host, mask, way)
	}
}

// TestNewHasNone: P10.1, with the chapter's examples.
func TestNewHasNone(t *testing.T) {
	p := newPair(t)
	p.look("New", odd())
	if r := route.New(); r.Own() != 0 || r.Takes(0) || !r.Takes(0xffffffff) {
		t.Errorf("New: %d, %v, %v, want 0, false, true", r.Own(), r.Takes(0), r.Takes(0xffffffff))
	}
}

// setCase is a Set and what the chapter asks for.
type setCase struct {
	ip, mask, router string
	want             api.Errno
}

func checkSets(t *testing.T, list []setCase) {
	t.Helper()
	for _, x := range list {
		r := route.New()
		got := r.Set(address(t, x.ip), address(t, x.mask), address(t, x.router))
		if got != x.want {
			t.Errorf("Set(%s, %s, %s): %d, want %d", x.ip, x.mask, x.router, got, x.want)
		}
		own := "0.0.0.0"
		if x.want == api.OK {
			own = x.ip
		}
		if octet.Dotted(r.Own()) != own {
			t.Errorf("Set(%s, %s, %s): Own: %s, want %s", x.ip, x.mask, x.router, octet.Dotted(r.Own()), own)
		}
	}
}

// TestSetExamples: P10.1: the chapter's.
func TestSetExamples(t *testing.T) {
	checkSets(t, []setCase{
		{"0.0.0.5", "255.255.255.0", "0.0.0.0", api.ErrHost},
		{"10.0.0.5", "0.0.0.0", "0.0.0.0", api.ErrMask},
		{"10.0.0.5", "255.0.255.0", "0.0.0.0", api.ErrMask},
		{"10.0.0.0", "255.255.255.0", "0.0.0.0", api.ErrHost},
		{"10.0.0.255", "255.255.255.0", "0.0.0.0", api.ErrHost},
		{"10.0.0.0", "255.255.255.254", "0.0.0.0", api.OK},
		{"10.0.0.5", "255.255.255.0", "10.0.1.1", api.ErrWay},
		{"10.0.0.5", "255.255.255.0", "10.0.0.255", api.ErrWay},
		{"10.0.0.5", "255.255.255.0", "10.0.0.5", api.ErrWay},
		{"10.0.0.5", "255.255.255.0", "10.0.0.1", api.OK},
		{"64.0.0.1", "128.0.0.0", "0.0.0.0", api.OK},
	})
}

// TestSetMasks: P10.1: masks of few and of many ones, and what is no mask.
func TestSetMasks(t *testing.T) {
	checkSets(t, []setCase{
		{"10.0.0.5", "128.0.0.0", "0.0.0.0", api.OK},
		{"10.0.0.5", "255.255.255.252", "0.0.0.0", api.OK},
		{"10.0.0.6", "255.255.255.252", "10.0.0.5", api.OK},
		{"10.0.0.4", "255.255.255.252", "0.0.0.0", api.ErrHost},
		{"10.0.0.7", "255.255.255.252", "0.0.0.0", api.ErrHost},
		{"10.0.0.4", "255.255.255.254", "10.0.0.5", api.OK},
		{"10.0.0.5", "255.255.255.254", "10.0.0.4", api.OK},
		{"10.0.0.5", "255.255.255.254", "10.0.0.6", api.ErrWay},
		{"10.0.0.5", "255.255.255.255", "0.0.0.0", api.OK},
		{"10.0.0.0", "255.255.255.255", "0.0.0.0", api.OK},
		{"10.0.0.255", "255.255.255.255", "0.0.0.0", api.OK},
		{"10.0.0.5", "255.255.255.255", "10.0.0.4", api.ErrWay},
		{"10.0.0.5", "255.255.255.255", "10.0.0.5", api.ErrWay},
		{"10.0.0.5", "127.0.0.0", "0.0.0.0", api.ErrMask},
		{"10.0.0.5", "0.0.0.1", "0.0.0.0", api.ErrMask},
		{"10.0.0.5", "0.255.255.255", "0.0.0.0", api.ErrMask},
		{"10.0.0.5", "255.255.255.253", "0.0.0.0", api.ErrMask},
		{"10.0.0.5", "128.0.0.1", "0.0.0.0", api.ErrMask},
	})
}

// TestSetHosts: P10.1: what is no host's address is none of any net, nor is a router.
func TestSetHosts(t *testing.T) {
	for _, no := range []string{"0.0.0.5", "127.0.0.1", "224.0.0.1", "255.255.255.255", "0.255.255.255", "127.255.255.255", "240.0.0.1"} {
		for _, mask := range []string{"128.0.0.0", "255.0.0.0", "255.255.255.252", "255.255.255.254", "255.255.255.255"} {
			checkSets(t, []setCase{
				{no, mask, "0.0.0.0", api.ErrHost},
				{"10.0.0.5", mask, no, api.ErrWay},
				{"200.0.0.5", mask, no, api.ErrWay},
			})
		}
	}
	checkSets(t, []setCase{
		{"0.0.0.0", "255.255.255.0", "0.0.0.0", api.ErrHost},
		{"1.0.0.1", "255.255.255.0", "1.0.0.2", api.OK},
		{"126.255.255.254", "255.255.255.0", "126.255.255.1", api.OK},
		{"128.0.0.1", "128.0.0.0", "223.255.255.255", api.OK},
		{"64.0.0.1", "128.0.0.0", "127.0.0.1", api.ErrWay},
		{"64.0.0.1", "128.0.0.0", "0.0.0.5", api.ErrWay},
		{"64.0.0.1", "128.0.0.0", "126.255.255.255", api.OK},
	})
}

// TestSetOrder: P10.1 with R5: of two faults the one that is named first; the host's address is asked ahead of the mask, the host of the net behind it.
func TestSetOrder(t *testing.T) {
	checkSets(t, []setCase{
		{"0.0.0.5", "0.0.0.0", "0.0.0.0", api.ErrHost},
		{"127.0.0.1", "255.0.255.0", "10.0.0.1", api.ErrHost},
		{"224.0.0.1", "255.255.255.0", "10.0.0.1", api.ErrHost},
		{"10.0.0.0", "0.0.0.0", "0.0.0.0", api.ErrMask},
		{"10.0.0.0", "255.0.255.0", "0.0.0.0", api.ErrMask},
		{"10.0.0.5", "255.0.255.0", "10.0.0.5", api.ErrMask},
		{"10.0.0.5", "0.0.0.0", "127.0.0.1", api.ErrMask},
		{"10.0.0.0", "255.255.255.0", "10.0.0.0", api.ErrHost},
		{"10.0.0.255", "255.255.255.0", "10.0.1.1", api.ErrHost},
		{"0.0.0.0", "0.0.0.0", "10.0.0.1", api.ErrHost},
	})
}

// TestSetPlainly: P10.1, held against the chapter told plainly: all masks and near masks, with addresses at all edges.
func TestSetPlainly(t *testing.T) {
	for ones := range 33 {
		mask := maskOf(ones)
		for _, ip := range odd() {
			p := newPair(t)
			for _, router := range append(about(ip, ones), 0) {
				p.set(ip, mask, router)
			}
			for bit := range 32 {
				p.set(ip, mask^1<<bit, 0)
				p.set(ip, mask^1<<bit, ip+1)
			}
			p.look("Set", about(ip, ones))
		}
	}
}

// TestSetRefused: P10.1 with R4: behind a Set that was refused the table has what it had.
func TestSetRefused(t *testing.T) {
	refused := [][3]uint32{
		{0x00000005, 0xffffff00, 0}, {0x7f000001, 0xff000000, 0}, {0x0a000006, 0, 0}, {0x0a000006, 0xff00ff00, 0},
		{0x0b000000, 0xffffff00, 0}, {0x0b0000ff, 0xffffff00, 0}, {0x0b000005, 0xffffff00, 0x0a000001}, {0x0b000005, 0xffffff00, 0x0b000005},
		{0x0a000005, 0xffffff00, 0x0a000100}, {0, 0, 0},
	}
	for _, had := range [][3]uint32{{}, {0x0a000005, 0xffffff00, 0}, {0x0a000005, 0xffffff00, 0x0a000001}, {0x0a000005, 0xffffffff, 0}} {
		p := newPair(t)
		if had[0] != 0 && p.set(had[0], had[1], had[2]) != api.OK {
			t.Fatal("the first Set is refused")
		}
		for _, x := range refused {
			if p.set(x[0], x[1], x[2]) == api.OK {
				t.Fatalf("%x is not to be refused", x)
			}
			p.look(fmt.Sprintf("behind the refused %x", x), about(0x0a000005, 24))
			p.look(fmt.Sprintf("behind the refused %x", x), about(x[0], 24))
		}
	}
}

// TestSetInPlace: P10.1: a Set takes the place of the one ahead, its mask and its router too.
func TestSetInPlace(t *testing.T) {
	places := [][3]uint32{
		{0x0a000005, 0xffffff00, 0x0a000001}, {0x0a000005, 0xffffff00, 0}, {0x0a000005, 0xffff0000, 0}, {0x0a000006, 0xffffff00, 0x0a000005},
		{0xc0a80001, 0xfffffffe, 0xc0a80000}, {0xc0a80001, 0xffffffff, 0}, {0x40000001, 0x80000000, 0x01020304}, {0xc0000001, 0xc0000000, 0},
	}
	for _, one := range places {
		for _, two := range places {
			p := newPair(t)
			for _, x := range [][3]uint32{one, two} {
				if p.set(x[0], x[1], x[2]) != api.OK {
					t.Fatalf("%x is refused", x)
				}
			}
			p.look("the second", about(one[0], plainOnes(one[1])))
			p.look("the second", about(two[0], plainOnes(two[1])))
		}
	}
}
