package arp_test

import (
	"testing"

	"slipway/api"
	"slipway/arp"
)

func checkClash(t *testing.T, own api.Mac, ip uint32, p api.Arp, want bool) {
	t.Helper()
	if got := arp.Clash(own, ip, p); got != want {
		t.Errorf("Clash(% x, %08x, %v): %v", own, ip, p, got)
	}
}

// plainClash is P8.3, said step by step.
func plainClash(own api.Mac, ip uint32, p api.Arp) bool {
	same := true
	for i := range own {
		same = same && own[i] == p.SrcMac[i]
	}
	switch {
	case same:
		return false
	case p.SrcIp == ip:
		return true
	case p.Op != 1:
		return false
	case p.SrcIp != 0:
		return false
	}
	return p.DstIp == ip
}

// TestClashExamples: P8.3, the chapter's table and what stands beside it.
func TestClashExamples(t *testing.T) {
	a, b := stationA(), stationB()
	for _, x := range []struct {
		ip   uint32
		p    api.Arp
		want bool
	}{
		{nine, arp.Probe(b, nine), true},
		{nine, arp.Probe(a, nine), false},
		{nine, arp.Ask(b, nine, one), true},
		{one, arp.Ask(b, nine, one), false},
		{one, arp.Tell(b, arp.Ask(a, nine, one)), true},
		{nine, arp.Tell(b, arp.Ask(a, nine, one)), false},
		{one, arp.Tell(a, arp.Ask(b, nine, one)), false},
		{ten, arp.Probe(b, nine), false},
		{0, arp.Probe(b, nine), true},
		{nine, arp.Ask(b, nine, nine), true}, // it tells everyone which address it has
		{nine, arp.Ask(a, nine, nine), false},
	} {
		checkClash(t, a, x.ip, x.p, x.want)
	}
}

// TestClashOps: P8.3: a message that is no question clashes by the address it comes from alone.
func TestClashOps(t *testing.T) {
	for _, op := range append(strangeOps(), 2) {
		for _, dst := range []api.Mac{{}, stationA(), stationB(), everyone()} {
			p := api.Arp{Op: op, SrcMac: stationB(), DstMac: dst, DstIp: nine}
			checkClash(t, stationA(), nine, p, false)
			checkClash(t, stationA(), 0, p, true)
			p.SrcIp = nine
			checkClash(t, stationA(), nine, p, true)
			checkClash(t, stationA(), 0, p, false)
			p.SrcMac = stationA()
			checkClash(t, stationA(), nine, p, false)
		}
	}
}

// TestClashNoAddress: P8.3, where addresses are 0.
func TestClashNoAddress(t *testing.T) {
	for _, op := range append(strangeOps(), 1, 2) {
		checkClash(t, stationA(), 0, api.Arp{Op: op, SrcMac: stationB()}, true)
		checkClash(t, stationA(), 0, api.Arp{Op: op, SrcMac: stationA()}, false)
		checkClash(t, api.Mac{}, 0, api.Arp{Op: op}, false)
		checkClash(t, stationA(), nine, api.Arp{Op: op, SrcMac: stationB()}, false)
		checkClash(t, stationA(), 0, api.Arp{Op: op, SrcMac: stationB(), SrcIp: nine}, false)
	}
}

// TestClashAll: P8.3, all of the edges with each other; DstMac is not looked at.
func TestClashAll(t *testing.T) {
	stations := []api.Mac{{}, stationA(), stationB(), everyone()}
	addresses := []uint32{0, one, nine, 1<<32 - 1}
	for _, op := range append(strangeOps(), 1, 2) {
		for _, own := range stations {
			for _, src := range stations {
				for _, dst := range stations {
					for _, from := range addresses {
						for _, to := range addresses {
							for _, ip := range addresses {
								p := api.Arp{Op: op, SrcMac: src, SrcIp: from, DstMac: dst, DstIp: to}
								checkClash(t, own, ip, p, plainClash(own, ip, p))
							}
						}
					}
				}
			}
		}
	}
}

// TestClashNear: P8.3: one bit beside own is another station, one bit beside the address another address.
func TestClashNear(t *testing.T) {
	for _, own := range edgeStations() {
		for bit := range 48 {
			other := own
			other[bit/8] ^= 1 << (bit % 8)
			checkClash(t, own, nine, arp.Probe(other, nine), true)
			checkClash(t, own, nine, arp.Ask(other, nine, one), true)
		}
	}
	for bit := range 32 {
		near := uint32(nine ^ 1<<bit)
		checkClash(t, stationA(), nine, arp.Probe(stationB(), near), false)
		checkClash(t, stationA(), nine, arp.Ask(stationB(), near, nine), false)
		checkClash(t, stationA(), nine, arp.Ask(stationB(), 1<<bit, nine), false) // any address but 0 makes it no probe
	}
}

// TestOwnAnswerNeverClashes: P8.4: for own, of whatever address and to whatever message.
func TestOwnAnswerNeverClashes(t *testing.T) {
	r := draws()
	for _, op := range append(strangeOps(), 1, 2) {
		for _, own := range append(edgeStations(), someStation(r)) {
			p := someMessage(r)
			p.Op = op
			for _, ip := range append(edgeAddresses(), p.SrcIp, p.DstIp) {
				checkClash(t, own, ip, arp.Tell(own, p), false)
				checkClash(t, own, ip, arp.Tell(own, api.Arp{Op: op, SrcMac: own, DstIp: ip}), false)
				checkClash(t, own, ip, arp.Tell(own, api.Arp{Op: op, SrcIp: ip, DstIp: ip}), false)
			}
		}
	}
}

// TestProbeClashesForOthers: P8.4: for the address that it probes, and for 0, and for no other; never for the station that probes.
func TestProbeClashesForOthers(t *testing.T) {
	for _, own := range edgeStations() {
		for _, other := range edgeStations() {
			for _, probed := range edgeAddresses() {
				for _, ip := range edgeAddresses() {
					want := other != own && (ip == probed || ip == 0)
					checkClash(t, own, ip, arp.Probe(other, probed), want)
				}
			}
		}
	}
}

// TestAnswerClashesForOthers: P8.4: for the address that it tells, and for no other.
func TestAnswerClashesForOthers(t *testing.T) {
	for _, own := range edgeStations() {
		for _, other := range edgeStations() {
			for _, told := range edgeAddresses() {
				for _, ip := range edgeAddresses() {
					want := other != own && ip == told
					checkClash(t, own, ip, arp.Tell(other, arp.Ask(own, nine, told)), want)
					checkClash(t, own, ip, arp.Tell(other, arp.Probe(own, told)), want)
				}
			}
		}
	}
}
