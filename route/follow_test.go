package route_test

import (
	"testing"

	"slipway/api"
	"slipway/octet"
	"slipway/route"
)

// someSets are draws of Sets of which many are taken.
func someSets(n int) [][3]uint32 {
	r := draws()
	list := [][3]uint32{}
	for range n {
		ip, ones := (1+r.Uint32N(223))<<24+r.Uint32N(1<<24), 1+r.IntN(32)
		router := uint32(0)
		if r.IntN(2) == 0 {
			router = ip ^ r.Uint32()>>r.IntN(32)
		}
		list = append(list, [3]uint32{ip, maskOf(ones), router})
	}
	return list
}

// TestWaysLead: P10.4: by the link to a dst in the net, by the router to a host of the net that is not our own; what goes to everyone is taken.
func TestWaysLead(t *testing.T) {
	seen := [4]int{}
	for _, x := range someSets(3000) {
		r := route.New()
		if r.Set(x[0], x[1], x[2]) != api.OK {
			continue
		}
		net := plain{x[0], x[2], plainOnes(x[1])}
		for _, dst := range about(x[0], net.ones) {
			way, to := r.Hop(dst)
			right := false
			switch way {
			case api.HopNone:
				right = to == 0
			case api.HopAll:
				right = to == dst && r.Takes(dst)
			case api.HopLink:
				right = to == dst && net.inNet(dst) && dst != r.Own()
			case api.HopRouter:
				right = to == x[2] && net.hostOfNet(to) && !net.inNet(dst) && to != r.Own()
			}
			if !right {
				t.Errorf("%x: Hop(%s): %d, %s", x, octet.Dotted(dst), way, octet.Dotted(to))
				continue
			}
			seen[way]++
		}
	}
	for way, n := range seen {
		if n == 0 {
			t.Errorf("no dst had the way %d", way)
		}
	}
}

// TestSetClearSet: P10.4: behind Set, Clear and the same Set all is as behind the first one; the Clear leaves nothing.
func TestSetClearSet(t *testing.T) {
	for _, x := range someSets(500) {
		p := newPair(t)
		list := about(x[0], plainOnes(x[1]))
		first := p.set(x[0], x[1], x[2])
		p.look("Set", list)
		p.clear()
		p.look("Clear", list)
		p.clear()
		p.look("Clear, Clear", list)
		if again := p.set(x[0], x[1], x[2]); again != first {
			t.Errorf("%x: the second Set is %d, the first one %d", x, again, first)
		}
		p.look("Set, Clear, Set", list)
		p.set(x[0], x[1], x[2])
		p.look("Set, Clear, Set, Set", list)
	}
}

// TestClearNone: P10.1: a Clear of a table that has none changes nothing, and what was refused behind it neither.
func TestClearNone(t *testing.T) {
	p := newPair(t)
	p.clear()
	p.look("Clear", odd())
	p.set(0x0a000005, 0, 0)
	p.look("Clear, a Set that was refused", odd())
}

// TestAsksChangeNothing: P10.2, P10.3 with R6: the same question has the same answer, whatever was asked between.
func TestAsksChangeNothing(t *testing.T) {
	for _, x := range someSets(100) {
		p := newPair(t)
		p.set(x[0], x[1], x[2])
		list := about(x[0], plainOnes(x[1]))
		for range 3 {
			p.look("asked again", list)
		}
	}
}

// TestTwoTables: two tables don't touch one another.
func TestTwoTables(t *testing.T) {
	one, two := newPair(t), newPair(t)
	list := append(about(0x0a000005, 24), about(0xc0a80001, 30)...)
	look := func(what string) {
		one.look(what+", the first", list)
		two.look(what+", the second", list)
	}
	one.set(0x0a000005, 0xffffff00, 0x0a000001)
	look("the first has an address")
	two.set(0xc0a80001, 0xfffffffc, 0)
	look("both have one")
	one.clear()
	look("the first was cleared")
	one.set(0xc0a80001, 0xfffffffc, 0xc0a80002)
	look("both have the same, but for the router")
	two.set(0xc0a80001, 0xff00ff00, 0)
	look("the second was refused")
	two.clear()
	look("the second was cleared")
	newPair(t).look("a new one", list)
}
