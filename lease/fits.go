package lease

import (
	"slipway/api"
	"slipway/octet"
	"slipway/option"
	"slipway/route"
)

const (
	forever          = 1<<32 - 1 // seconds of a lease that never ends
	oneHost   uint32 = 1<<32 - 1 // the mask of a net that has no other host
	longWidth        = 4
)

// read is the lease of an Offer or an Ack, without its times (false: it doesn't fit).
func read(m api.Bootp) (api.Lease, bool) {
	// A number without its four bytes is 0: no host's address, no time, no mask.
	server, _ := option.Number(m.Options, api.OptServer)
	mask := maskOf(m.Options)
	if !octet.IsHost(server) || seconds(m) == 0 || !canHave(m.Yi, mask, 0) {
		return api.Lease{}, false
	}
	l := api.Lease{Ip: m.Yi, Mask: mask, Server: server, Next: server, File: fileOf(m)}
	if router := routerOf(m.Options); canHave(m.Yi, mask, router) {
		l.Router = router
	}
	if octet.IsHost(m.Si) {
		l.Next = m.Si
	}
	return l, true
}

// canHave asks a table that nobody uses.
func canHave(ip, mask, router uint32) bool { return route.New().Set(ip, mask, router) == api.OK }

func seconds(m api.Bootp) uint32 {
	n, _ := option.Number(m.Options, api.OptTime)
	return n
}

func maskOf(l []api.Option) uint32 {
	if _, there := option.Find(l, api.OptMask); !there {
		return oneHost
	}
	mask, _ := option.Number(l, api.OptMask)
	return mask
}

// routerOf is the first one, as there may be several; 0, if there is none.
func routerOf(l []api.Option) uint32 {
	data, _ := option.Find(l, api.OptRouter)
	n, _ := octet.Get(data, 0, longWidth)
	return uint32(n)
}

func fileOf(m api.Bootp) string {
	if name, there := option.Find(m.Options, api.OptFile); there {
		return string(name)
	}
	return m.File
}

// timed is a lease with the times that a message gives it, from a time on.
func timed(l api.Lease, m api.Bootp, from int) api.Lease {
	l.From = from
	if seconds(m) == forever {
		l.T1, l.T2, l.Until = never, never, never
		return l
	}
	all := int(seconds(m)) * api.Second
	t1, t2 := spans(m.Options, all)
	l.T1, l.T2, l.Until = behind(from, t1), behind(from, t2), behind(from, all)
	return l
}

// spans are the ticks up to T1 and T2: what the options say is taken for both, or for none where it is out of order.
func spans(l []api.Option, all int) (int, int) {
	half, eighths := all/2, all*7/8
	t1, t2 := span(l, api.OptT1, half), span(l, api.OptT2, eighths)
	if t1 <= 0 || t2 <= t1 || all <= t2 {
		return half, eighths
	}
	return t1, t2
}

func span(l []api.Option, code, without int) int {
	if n, ok := option.Number(l, code); ok {
		return int(n) * api.Second
	}
	return without
}
