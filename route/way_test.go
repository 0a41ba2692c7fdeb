package route_test

import (
	"testing"

	"slipway/api"
	"slipway/octet"
	"slipway/route"
)

// tableOf has what is told.
func tableOf(t *testing.T, ip, mask, router string) *route.Table {
	t.Helper()
	r := route.New()
	if e := r.Set(address(t, ip), address(t, mask), address(t, router)); e != api.OK {
		t.Fatalf("Set(%s, %s, %s): %d", ip, mask, router, e)
	}
	return r
}

func checkTakes(t *testing.T, r *route.Table, want bool, list ...string) {
	t.Helper()
	for _, dst := range list {
		if got := r.Takes(address(t, dst)); got != want {
			t.Errorf("of %s: Takes(%s): %v", octet.Dotted(r.Own()), dst, got)
		}
	}
}

func checkHop(t *testing.T, r *route.Table, dst string, way int, to string) {
	t.Helper()
	if gotWay, gotTo := r.Hop(address(t, dst)); gotWay != way || gotTo != address(t, to) {
		t.Errorf("of %s: Hop(%s): %d, %s, want %d, %s", octet.Dotted(r.Own()), dst, gotWay, octet.Dotted(gotTo), way, to)
	}
}

func checkNoWay(t *testing.T, r *route.Table, list ...string) {
	t.Helper()
	for _, dst := range list {
		checkHop(t, r, dst, 0, "0.0.0.0")
	}
}

// TestTakes: P10.2: the chapter's examples, and nets of few and of many ones.
func TestTakes(t *testing.T) {
	r := tableOf(t, "10.0.0.5", "255.255.255.0", "10.0.0.1")
	checkTakes(t, r, true, "10.0.0.5", "10.0.0.255", "255.255.255.255")
	checkTakes(t, r, false, "10.0.0.6", "10.0.0.0", "10.0.0.1", "0.0.0.0", "10.0.1.255", "10.255.255.255", "127.0.0.1", "224.0.0.1", "255.255.255.254", "0.0.0.255")
	r = tableOf(t, "10.0.0.5", "255.255.255.252", "0.0.0.0")
	checkTakes(t, r, true, "10.0.0.5", "10.0.0.7", "255.255.255.255")
	checkTakes(t, r, false, "10.0.0.4", "10.0.0.6", "10.0.0.255")
	r = tableOf(t, "10.0.0.4", "255.255.255.254", "0.0.0.0")
	checkTakes(t, r, true, "10.0.0.4", "255.255.255.255")
	checkTakes(t, r, false, "10.0.0.5", "10.0.0.7", "10.0.0.255")
	r = tableOf(t, "10.0.0.5", "255.255.255.255", "0.0.0.0")
	checkTakes(t, r, true, "10.0.0.5", "255.255.255.255")
	checkTakes(t, r, false, "10.0.0.4", "10.0.0.6", "0.0.0.0")
}

// TestTakesNoHosts: P10.2 asks of a broadcast address no more than to be the net's: it may be no host's address.
func TestTakesNoHosts(t *testing.T) {
	r := tableOf(t, "64.0.0.1", "128.0.0.0", "0.0.0.0")
	checkTakes(t, r, true, "127.255.255.255", "64.0.0.1")
	checkTakes(t, r, false, "127.0.0.1", "0.0.0.0", "126.255.255.255")
	checkNoWay(t, r, "127.255.255.255")
}

// TestTakesNothingElse: P10.2: a table that has none takes what is sent to everyone alone.
func TestTakesNothingElse(t *testing.T) {
	r := route.New()
	for range 2 {
		checkTakes(t, r, true, "255.255.255.255")
		checkTakes(t, r, false, "0.0.0.0", "0.0.0.5", "10.0.0.5", "10.0.0.255", "127.0.0.1", "224.0.0.1", "255.255.255.254")
		r.Set(0x0a000005, 0xffffff00, 0x0a000001)
		r.Clear()
	}
}

// TestHopExamples: P10.3: the chapter's.
func TestHopExamples(t *testing.T) {
	r := route.New()
	checkNoWay(t, r, "10.0.0.1")
	checkHop(t, r, "255.255.255.255", api.HopAll, "255.255.255.255")
	r = tableOf(t, "10.0.0.5", "255.255.255.0", "10.0.0.1")
	checkHop(t, r, "10.0.0.9", api.HopLink, "10.0.0.9")
	checkHop(t, r, "10.0.0.255", api.HopAll, "10.0.0.255")
	checkHop(t, r, "10.1.0.9", api.HopRouter, "10.0.0.1")
	checkNoWay(t, r, "10.0.0.5", "127.0.0.1", "224.0.0.1", "0.0.0.0")
	checkHop(t, r, "10.0.0.0", api.HopLink, "10.0.0.0")
	checkNoWay(t, tableOf(t, "10.0.0.5", "255.255.255.0", "0.0.0.0"), "10.1.0.9")
	r = tableOf(t, "10.0.0.5", "255.255.255.255", "0.0.0.0")
	checkNoWay(t, r, "10.0.0.6", "10.0.0.5")
	checkTakes(t, r, true, "10.0.0.5")
	r.Clear()
	checkNoWay(t, r, "10.0.0.9")
	checkNoWay(t, tableOf(t, "64.0.0.1", "128.0.0.0", "0.0.0.0"), "127.0.0.1")
}

// TestHopNumbers: P10.3: the ways are told by their numbers.
func TestHopNumbers(t *testing.T) {
	r := tableOf(t, "10.0.0.5", "255.255.255.0", "10.0.0.1")
	checkHop(t, r, "10.0.0.5", 0, "0.0.0.0")
	checkHop(t, r, "10.0.0.255", 1, "10.0.0.255")
	checkHop(t, r, "10.0.0.9", 2, "10.0.0.9")
	checkHop(t, r, "10.0.1.9", 3, "10.0.0.1")
}

// TestHopEveryone: P10.3, 1: everyone's address goes to everyone, with whatever the table has; it is the broadcast address of the nets behind 192.0.0.0 too.
func TestHopEveryone(t *testing.T) {
	for _, x := range [][3]string{{"10.0.0.5", "255.255.255.0", "10.0.0.1"}, {"10.0.0.5", "255.255.255.255", "0.0.0.0"}, {"192.0.0.1", "192.0.0.0", "0.0.0.0"}, {"200.0.0.1", "128.0.0.0", "200.0.0.2"}} {
		r := tableOf(t, x[0], x[1], x[2])
		checkHop(t, r, "255.255.255.255", api.HopAll, "255.255.255.255")
		checkTakes(t, r, true, "255.255.255.255")
		r.Clear()
		checkHop(t, r, "255.255.255.255", api.HopAll, "255.255.255.255")
	}
}

// TestHopNoHost: P10.3, 2: what is no host's address has no way: neither by the link, if it is in the net, nor to everyone, nor by the router.
func TestHopNoHost(t *testing.T) {
	no := []string{"0.0.0.0", "0.0.0.5", "0.255.255.255", "127.0.0.0", "127.0.0.1", "127.255.255.255", "224.0.0.1", "240.0.0.1", "255.255.255.254"}
	checkNoWay(t, route.New(), no...)
	for _, x := range [][3]string{
		{"64.0.0.1", "128.0.0.0", "0.0.0.0"}, {"64.0.0.1", "128.0.0.0", "64.0.0.2"}, {"200.0.0.1", "128.0.0.0", "200.0.0.2"},
		{"10.0.0.5", "255.255.255.0", "10.0.0.1"}, {"10.0.0.5", "255.255.255.0", "0.0.0.0"}, {"1.0.0.5", "254.0.0.0", "1.0.0.6"},
	} {
		checkNoWay(t, tableOf(t, x[0], x[1], x[2]), no...)
	}
}

// TestHopOwn: P10.3, 2: the own address is in the net, and has no way all the same.
func TestHopOwn(t *testing.T) {
	for _, mask := range []string{"128.0.0.0", "255.255.255.0", "255.255.255.252", "255.255.255.254", "255.255.255.255"} {
		checkNoWay(t, tableOf(t, "10.0.0.5", mask, "0.0.0.0"), "10.0.0.5")
	}
	checkNoWay(t, tableOf(t, "10.0.0.5", "255.255.255.254", "10.0.0.4"), "10.0.0.5")
}

// TestHopSmallNets: P10.3, 3 to 6, in nets of 30, 31 and 32 ones: the last two have no broadcast address.
func TestHopSmallNets(t *testing.T) {
	r := tableOf(t, "10.0.0.5", "255.255.255.252", "10.0.0.6")
	checkHop(t, r, "10.0.0.4", api.HopLink, "10.0.0.4")
	checkHop(t, r, "10.0.0.6", api.HopLink, "10.0.0.6")
	checkHop(t, r, "10.0.0.7", api.HopAll, "10.0.0.7")
	checkHop(t, r, "10.0.0.8", api.HopRouter, "10.0.0.6")
	checkHop(t, r, "10.0.0.3", api.HopRouter, "10.0.0.6")
	r = tableOf(t, "10.0.0.4", "255.255.255.254", "10.0.0.5")
	checkHop(t, r, "10.0.0.5", api.HopLink, "10.0.0.5")
	checkHop(t, r, "10.0.0.6", api.HopRouter, "10.0.0.5")
	checkHop(t, r, "10.0.0.3", api.HopRouter, "10.0.0.5")
	r = tableOf(t, "10.0.0.5", "255.255.255.254", "0.0.0.0")
	checkHop(t, r, "10.0.0.4", api.HopLink, "10.0.0.4")
	checkNoWay(t, r, "10.0.0.6", "10.0.0.3")
	checkNoWay(t, tableOf(t, "10.0.0.5", "255.255.255.255", "0.0.0.0"), "10.0.0.4", "10.0.0.6", "10.0.0.255")
}

// TestHopRouterInNet: P10.3: what is in the net goes by the link, be it the router itself.
func TestHopRouterInNet(t *testing.T) {
	r := tableOf(t, "10.0.0.5", "255.255.255.0", "10.0.0.1")
	checkHop(t, r, "10.0.0.1", api.HopLink, "10.0.0.1")
	checkHop(t, r, "10.0.0.254", api.HopLink, "10.0.0.254")
	checkHop(t, r, "10.0.1.255", api.HopRouter, "10.0.0.1")
	checkHop(t, r, "9.255.255.255", api.HopRouter, "10.0.0.1")
	checkHop(t, r, "223.255.255.255", api.HopRouter, "10.0.0.1")
}

// TestPlainly: P10.2, P10.3, held against the chapter told plainly: nets of each number of ones, with and without a router, and behind Clear.
func TestPlainly(t *testing.T) {
	for ones := 1; ones <= 32; ones++ {
		for _, ip := range odd() {
			p := newPair(t)
			list := about(ip, ones)
			for _, router := range []uint32{0, ip ^ 1, ip ^ 2, ip - 1, ip ^ 1<<31} {
				if p.set(ip, maskOf(ones), router) == api.OK {
					p.look("Set", list)
				}
			}
			p.clear()
			p.look("Clear", list)
		}
	}
}

// TestPlainlyDrawn: P10.1 to P10.3 with draws: one table for all of them, so that nothing of an earlier Set may be left.
func TestPlainlyDrawn(t *testing.T) {
	r, p := draws(), newPair(t)
	for range 20000 {
		ip, ones := r.Uint32(), r.IntN(33)
		router := ip ^ r.Uint32()>>r.IntN(32)
		if r.IntN(3) == 0 {
			router = 0
		}
		p.set(ip, maskOf(ones), router)
		if r.IntN(8) == 0 {
			p.clear()
		}
		list := []uint32{0, 0xffffffff, ip, router, r.Uint32(), p.plain.ip, p.plain.router}
		for range 8 {
			list = append(list, p.plain.ip^r.Uint32()>>r.IntN(32), p.plain.ip|(1<<r.IntN(32)-1))
		}
		p.look("drawn", list)
	}
}
