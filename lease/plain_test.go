package lease_test

import "slipway/api"

const (
	maxTime  = 1 << 50
	everyone = 0xffffffff
)

// plain is the chapter's client told by its own words: nothing of it leans on the packages below.
type plain struct {
	own        api.Mac
	draws      []uint32 // that are left
	now        int
	state      int
	xid        uint32
	began      int
	firstAsked int // when the first Request for the offer was sent
	lease      api.Lease
	tries      int
	due        int
	acts       []api.LeaseAct
}

func newPlain(own api.Mac, draws []uint32) *plain {
	return &plain{own: own, draws: draws, due: -1}
}

func (p *plain) draw() uint32 {
	if len(p.draws) == 0 {
		return 0
	}
	n := p.draws[0]
	p.draws = p.draws[1:]
	return n
}

// timeGoesOn is R7.
func (p *plain) timeGoesOn(now int) {
	if now > maxTime {
		now = maxTime
	}
	if now > p.now {
		p.now = now
	}
}

func together(at, ticks int) int {
	if at > maxTime-ticks {
		return maxTime
	}
	return at + ticks
}

// backsOff waits dice.Backoff(40, 640, try).
func (p *plain) backsOff(try int) {
	b := []int{40, 80, 160, 320, 640}[try-1]
	p.due = together(p.now, b-b/4+int(p.draw())%(b/2+1))
}

func (p *plain) act(kind int, l api.Lease) {
	p.acts = append(p.acts, api.LeaseAct{Kind: kind, Lease: l})
}

// secs is how many whole seconds ago the question began.
func (p *plain) secs() int {
	n := (p.now - p.began) / 10
	if n > 65535 {
		return 65535
	}
	return n
}

func (p *plain) discover() { p.acts = append(p.acts, discover(p.own, p.xid, p.secs())) }

func (p *plain) requestOffer() {
	p.acts = append(p.acts, requestOffer(p.own, p.xid, p.secs(), p.lease.Ip, p.lease.Server))
}

func (p *plain) requestHeld() {
	to := uint32(everyone)
	if p.state == 5 {
		to = p.lease.Server
	}
	p.acts = append(p.acts, requestHeld(p.own, p.xid, p.secs(), p.lease.Ip, to))
}

func (p *plain) newQuestion() {
	p.xid = p.draw()
	p.began = p.now
}

// begins is 'It begins'.
func (p *plain) begins() {
	p.newQuestion()
	p.lease = api.Lease{}
	p.state = 1
	p.tries = 1
	p.discover()
	p.backsOff(1)
}

// rests is 'It rests'.
func (p *plain) rests() {
	p.lease = api.Lease{}
	p.state = 0
	p.tries = 0
	p.due = together(p.now, 100)
}

func (p *plain) over(at int) bool { return at != -1 && at <= p.now }

// heldOn is 'It is held on'.
func (p *plain) heldOn() {
	if p.over(p.lease.Until) {
		p.act(4, p.lease)
		p.begins()
		return
	}
	if (p.state == 4 || p.state == 5) && p.over(p.lease.T2) {
		p.state = 6
		p.newQuestion()
		p.requestHeld()
		p.waitsHalf(p.lease.Until)
		return
	}
	if p.state == 4 && p.over(p.lease.T1) {
		p.state = 5
		p.newQuestion()
		p.requestHeld()
		p.waitsHalf(p.lease.T2)
		return
	}
	if p.state == 5 && p.due <= p.now {
		p.requestHeld()
		p.waitsHalf(p.lease.T2)
		return
	}
	if p.state == 6 && p.due <= p.now {
		p.requestHeld()
		p.waitsHalf(p.lease.Until)
	}
}

func (p *plain) waitsHalf(end int) {
	ticks := (end - p.now) / 2
	if ticks < 600 {
		ticks = 600
	}
	p.due = together(p.now, ticks)
	if p.due > end {
		p.due = end
	}
}

// adopted is 'It is adopted'.
func (p *plain) adopted(l api.Lease) {
	p.lease = l
	p.state = 4
	p.tries = 0
	p.due = l.T1
	p.act(3, l)
	p.heldOn()
}

func (p *plain) isHeld() bool { return p.state == 4 || p.state == 5 || p.state == 6 }

// start is P18.2.
func (p *plain) start(now int) {
	p.timeGoesOn(now)
	if p.isHeld() {
		p.act(4, p.lease)
	}
	p.begins()
}

// tick is P18.3.
func (p *plain) tick(now int) {
	p.timeGoesOn(now)
	if p.isHeld() {
		p.heldOn()
		return
	}
	if p.due == -1 || p.due > p.now {
		return
	}
	switch p.state {
	case 0:
		p.begins()
	case 1, 2:
		if p.tries == 5 {
			p.begins()
			return
		}
		p.tries++
		if p.state == 1 {
			p.discover()
		} else {
			p.requestOffer()
		}
		p.backsOff(p.tries)
	case 3:
		if p.over(p.lease.Until) {
			p.begins()
		} else {
			p.adopted(p.lease)
		}
	}
}

// on is P18.4.
func (p *plain) on(m api.Bootp, now int) {
	p.tick(now)
	if m.Op != 2 || m.Mac != p.own || m.Xid != p.xid {
		return
	}
	kind := 0
	if b, there := firstOf(m.Options, 53); there && len(b) == 1 {
		kind = int(b[0])
	}
	server, four := fourBytes(m.Options, 54)
	l, fits := plainLease(m)
	switch {
	case p.state == 1 && kind == 2 && fits:
		p.lease = l
		p.state = 2
		p.tries = 1
		p.firstAsked = p.now
		p.requestOffer()
		p.backsOff(1)
	case p.state == 2 && kind == 5 && fits && l.Ip == p.lease.Ip && l.Server == p.lease.Server:
		p.lease = plainTimes(l, m, p.firstAsked)
		p.state = 3
		p.tries = 0
		p.act(2, p.lease)
		p.due = together(p.now, 10)
	case p.state == 2 && kind == 6 && four && server == p.lease.Server:
		p.rests()
	case p.state == 5 && kind == 5 && fits && l.Ip == p.lease.Ip && l.Server == p.lease.Server, p.state == 6 && kind == 5 && fits && l.Ip == p.lease.Ip:
		l = plainTimes(l, m, p.began)
		if l.Until == -1 || l.Until > p.now {
			p.adopted(l)
		}
	case p.state == 5 && kind == 6 && four && server == p.lease.Server, p.state == 6 && kind == 6 && four:
		p.act(4, p.lease)
		p.rests()
	}
}

// clash is P18.5.
func (p *plain) clash(ip uint32, now int) {
	p.tick(now)
	if p.state < 3 || ip != p.lease.Ip {
		return
	}
	if p.isHeld() {
		p.act(4, p.lease)
	}
	p.acts = append(p.acts, decline(p.own, p.xid, p.lease.Ip, p.lease.Server))
	p.rests()
}

func firstOf(l []api.Option, code int) ([]byte, bool) {
	for _, o := range l {
		if o.Code == code {
			return o.Data, true
		}
	}
	return nil, false
}

func big(b []byte) uint32 {
	return uint32(b[0])*1<<24 + uint32(b[1])*1<<16 + uint32(b[2])*1<<8 + uint32(b[3])
}

func fourBytes(l []api.Option, code int) (uint32, bool) {
	b, _ := firstOf(l, code)
	if len(b) != 4 {
		return 0, false
	}
	return big(b), true
}

func isHost(ip uint32) bool {
	first := ip / (1 << 24)
	return first != 0 && first != 127 && first < 224
}

// isMask looks at the bits one by one.
func isMask(mask uint32) bool {
	zero := false
	for i := 31; i >= 0; i-- {
		one := mask>>i%2 == 1
		if one && zero {
			return false
		}
		zero = zero || !one
	}
	return mask != 0
}

// inNet tells whether an address is a host of the net.
func inNet(of, mask, ip uint32) bool {
	if !isHost(ip) || ip&mask != of&mask {
		return false
	}
	few := mask != 0xffffffff && mask != 0xfffffffe
	return !few || ip|mask != mask && ip|mask != everyone
}

func routeTakes(ip, mask, router uint32) bool {
	return isHost(ip) && isMask(mask) && inNet(ip, mask, ip) && (router == 0 || router != ip && inNet(ip, mask, router))
}

// plainLease is 'fits', and 'Its lease'.
func plainLease(m api.Bootp) (api.Lease, bool) {
	server, four := fourBytes(m.Options, 54)
	if !four || !isHost(server) {
		return api.Lease{}, false
	}
	if secs, four := fourBytes(m.Options, 51); !four || secs == 0 {
		return api.Lease{}, false
	}
	mask := uint32(0xffffffff)
	if b, there := firstOf(m.Options, 1); there {
		if len(b) != 4 {
			return api.Lease{}, false
		}
		mask = big(b)
	}
	if !routeTakes(m.Yi, mask, 0) {
		return api.Lease{}, false
	}
	l := api.Lease{Ip: m.Yi, Mask: mask, Server: server, Next: m.Si, File: m.File}
	if b, _ := firstOf(m.Options, 3); len(b) >= 4 && routeTakes(m.Yi, mask, big(b)) {
		l.Router = big(b)
	}
	if !isHost(m.Si) {
		l.Next = server
	}
	if b, there := firstOf(m.Options, 67); there {
		l.File = string(b)
	}
	return l, true
}

// plainTimes is 'The lease's times'.
func plainTimes(l api.Lease, m api.Bootp, from int) api.Lease {
	secs, _ := fourBytes(m.Options, 51)
	l.From = from
	l.T1, l.T2, l.Until = -1, -1, -1
	if secs == 4294967295 {
		return l
	}
	all := 10 * int(secs)
	t1, t2 := all/2, 7*all/8
	if n, four := fourBytes(m.Options, 58); four {
		t1 = 10 * int(n)
	}
	if n, four := fourBytes(m.Options, 59); four {
		t2 = 10 * int(n)
	}
	if !(t1 > 0 && t2 > t1 && all > t2) {
		t1, t2 = all/2, 7*all/8
	}
	l.T1, l.T2, l.Until = together(from, t1), together(from, t2), together(from, all)
	return l
}
