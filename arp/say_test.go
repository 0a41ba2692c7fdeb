package arp_test

import (
	"testing"

	"slipway/api"
	"slipway/arp"
)

// TestAsk: P8.2.
func TestAsk(t *testing.T) {
	for _, own := range edgeStations() {
		for _, src := range edgeAddresses() {
			for _, dst := range edgeAddresses() {
				want := api.Arp{Op: 1, SrcMac: own, SrcIp: src, DstMac: api.Mac{0, 0, 0, 0, 0, 0}, DstIp: dst}
				if got := arp.Ask(own, src, dst); got != want {
					t.Errorf("Ask(% x, %08x, %08x): %v, want %v", own, src, dst, got, want)
				}
			}
		}
	}
}

// TestProbe: P8.2: a question from no address.
func TestProbe(t *testing.T) {
	for _, own := range edgeStations() {
		for _, ip := range edgeAddresses() {
			want := api.Arp{Op: 1, SrcMac: own, DstIp: ip}
			if got := arp.Probe(own, ip); got != want || got != arp.Ask(own, 0, ip) {
				t.Errorf("Probe(% x, %08x): %v, want %v", own, ip, got, want)
			}
		}
	}
}

func checkTell(t *testing.T, own api.Mac, p api.Arp) {
	t.Helper()
	want := api.Arp{Op: 2, SrcMac: own, SrcIp: p.DstIp, DstMac: p.SrcMac, DstIp: p.SrcIp}
	if got := arp.Tell(own, p); got != want {
		t.Errorf("Tell(% x, %v): %v, want %v", own, p, got, want)
	}
}

// TestTellExample: P8.2, the chapter's table.
func TestTellExample(t *testing.T) {
	got := arp.Tell(stationB(), arp.Ask(stationA(), ten, one))
	want := api.Arp{Op: 2, SrcMac: stationB(), SrcIp: one, DstMac: stationA(), DstIp: ten}
	if got != want {
		t.Errorf("Tell: %v, want %v", got, want)
	}
}

// TestTellAny: P8.2: whatever the message is: an answer, a probe, one of no Op that there is, own's.
func TestTellAny(t *testing.T) {
	r := draws()
	for _, op := range append(strangeOps(), 1, 2) {
		for range 50 {
			p := someMessage(r)
			p.Op = op
			checkTell(t, someStation(r), p)
			checkTell(t, p.SrcMac, p)
			checkTell(t, p.DstMac, p)
		}
		for _, own := range edgeStations() {
			checkTell(t, own, api.Arp{Op: op})
			checkTell(t, own, api.Arp{Op: op, SrcMac: everyone(), SrcIp: 1<<32 - 1, DstMac: everyone(), DstIp: 1<<32 - 1})
		}
	}
	for _, ip := range edgeAddresses() {
		checkTell(t, stationB(), arp.Probe(stationA(), ip))
		checkTell(t, stationB(), arp.Tell(stationA(), arp.Probe(stationB(), ip)))
	}
}

// TestToldCanBeLaid: P8.1 with P8.2: what these calls tell are messages of the form, also where what is answered was none.
func TestToldCanBeLaid(t *testing.T) {
	r := draws()
	for _, op := range append(strangeOps(), 1, 2) {
		p := someMessage(r)
		p.Op = op
		checkEncode(t, arp.Tell(stationA(), p))
		checkEncode(t, arp.Ask(stationA(), p.SrcIp, p.DstIp))
		checkEncode(t, arp.Probe(stationA(), p.DstIp))
	}
}
