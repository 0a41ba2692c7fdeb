package neigh_test

import (
	"fmt"
	"math/rand/v2"
	"slices"
	"testing"

	"slipway/api"
	"slipway/neigh"
)

var (
	stationA = api.Mac{2, 0, 0, 0, 0, 10} // the own one
	stationB = api.Mac{2, 0, 0, 0, 0, 11}
	stationC = api.Mac{2, 0, 0, 0, 0, 12}
)

const (
	net     = 0x0a000000
	ours    = net + 10 // the own address
	maxTime = 1 << 50
)

// draws is the same row of numbers at each run: a fault that it shows can be looked at again.
func draws() *rand.Rand { return rand.New(rand.NewPCG(11, 1)) }

func someBytes(r *rand.Rand, n int) []byte {
	b := make([]byte, n)
	for i := range b {
		b[i] = byte(r.Uint32())
	}
	return b
}

// send is what an answer tells, as a text: bytes that are the same are the same text, nil or empty.
func send(dst api.Mac, kind int, data []byte) string {
	return fmt.Sprintf("%04x to %x: %x", kind, dst[:], data)
}

func sends(list []api.Send) []string {
	var out []string
	for _, s := range list {
		out = append(out, send(s.Dst, s.Kind, s.Data))
	}
	return out
}

// question is chapter 8's form, laid by hand, as a Send to everyone.
func question(own api.Mac, src, ip uint32) string {
	return fmt.Sprintf("0806 to ffffffffffff: 0001080006040001%x%08x000000000000%08x", own[:], src, ip)
}

// answer is that to a question of the station mac, which has ip, for the address src.
func answer(own api.Mac, src uint32, mac api.Mac, ip uint32) string {
	return fmt.Sprintf("0806 to %x: 0001080006040002%x%08x%x%08x", mac[:], own[:], src, mac[:], ip)
}

// packet is one that is sent to a station.
func packet(mac api.Mac, data []byte) string {
	return fmt.Sprintf("0800 to %x: %x", mac[:], data)
}

// plainEntry is one of the chapter's: its parts as the words have them, nothing told by another.
type plainEntry struct {
	ip        uint32
	known     bool
	mac       api.Mac
	until     int
	questions int
	src       uint32
	waits     string // the packet's hexadecimal digits
}

// plain is a cache told line by line: entries by rising addresses, as each call leaves them.
type plain struct {
	own  api.Mac
	most int
	now  int
	list []plainEntry
}

func (p *plain) tell(now int) {
	if now > p.now {
		p.now = now
	}
	if p.now > maxTime {
		p.now = maxTime
	}
}

func later(now, ticks int) int {
	if now > maxTime-ticks {
		return maxTime
	}
	return now + ticks
}

// place is where the entry of ip stands; -1: there is none.
func (p *plain) place(ip uint32) int {
	for i, e := range p.list {
		if e.ip == ip {
			return i
		}
	}
	return -1
}

func (p *plain) drop(i int) { p.list = append(p.list[:i:i], p.list[i+1:]...) }

func (p *plain) add(e plainEntry) {
	i := 0
	for i < len(p.list) && p.list[i].ip < e.ip {
		i++
	}
	rest := append([]plainEntry{e}, p.list[i:]...)
	p.list = append(p.list[:i:i], rest...)
}

// room is the chapter's 'Room for another entry'.
func (p *plain) room() bool {
	if len(p.list) < p.most {
		return true
	}
	best := -1
	for i, e := range p.list { // by rising addresses: of several the first one stays
		if e.known && (best == -1 || e.until < p.list[best].until) {
			best = i
		}
	}
	if best == -1 {
		return false
	}
	p.drop(best)
	return true
}

// ask is P11.2.
func (p *plain) ask(src, ip uint32, data []byte, now int) []string {
	p.tell(now)
	i := p.place(ip)
	if i != -1 && p.list[i].known && p.now < p.list[i].until {
		return []string{packet(p.list[i].mac, data)}
	}
	if i != -1 && !p.list[i].known {
		p.list[i].waits = fmt.Sprintf("%x", data)
		p.list[i].src = src
		return nil
	}
	if i != -1 {
		p.drop(i)
	}
	if !p.room() {
		return nil
	}
	p.add(plainEntry{ip: ip, until: later(p.now, 10), questions: 1, src: src, waits: fmt.Sprintf("%x", data)})
	return []string{question(p.own, src, ip)}
}

// hosts tells by the first byte whether an address may be one host's.
func hosts(ip uint32) bool {
	first := ip / (1 << 24)
	return first != 0 && first != 127 && first <= 223
}

// on is P11.3.
func (p *plain) on(m api.Arp, own uint32, now int) []string {
	p.tell(now)
	if m.Op != 1 && m.Op != 2 {
		return nil
	}
	if m.SrcMac[0]%2 == 1 {
		return nil
	}
	asks := false
	if own != 0 && m.Op == 1 {
		asks = m.DstIp == own
	}
	var out []string
	if hosts(m.SrcIp) && m.SrcIp != own {
		out = p.learn(m, asks)
	}
	if asks {
		out = append(out, answer(p.own, own, m.SrcMac, m.SrcIp))
	}
	return out
}

// learn is the first part of P11.3.
func (p *plain) learn(m api.Arp, asks bool) []string {
	known := plainEntry{ip: m.SrcIp, known: true, mac: m.SrcMac, until: later(p.now, 600)}
	if i := p.place(m.SrcIp); i != -1 {
		was := p.list[i]
		p.list[i] = known
		if was.known {
			return nil
		}
		return []string{fmt.Sprintf("0800 to %x: %s", m.SrcMac[:], was.waits)}
	}
	if asks && p.room() {
		p.add(known)
	}
	return nil
}

// tick is P11.4.
func (p *plain) tick(now int) []string {
	p.tell(now)
	var out []string
	var stay []plainEntry
	for _, e := range p.list {
		if e.until <= p.now {
			if e.known || e.questions == 3 {
				continue
			}
			out = append(out, question(p.own, e.src, e.ip))
			e.questions++
			e.until = later(p.now, 10)
		}
		stay = append(stay, e)
	}
	p.list = stay
	return out
}

// next and look are P11.5.
func (p *plain) next() (int, bool) {
	if len(p.list) == 0 {
		return 0, false
	}
	least := p.list[0].until
	for _, e := range p.list {
		if e.until < least {
			least = e.until
		}
	}
	return least, true
}

func (p *plain) look() []api.Neigh {
	var out []api.Neigh
	for _, e := range p.list {
		n := api.Neigh{Ip: e.ip, State: 1, Until: e.until, Tries: e.questions, Waiting: true}
		if e.known {
			n = api.Neigh{Ip: e.ip, Mac: e.mac, State: 2, Until: e.until}
		}
		out = append(out, n)
	}
	return out
}

// pair is a cache and what the chapter says of it; behind each call they are held against each other.
type pair struct {
	t     *testing.T
	cache *neigh.Cache
	plain *plain
}

func newPair(t *testing.T, own api.Mac, most int) *pair {
	t.Helper()
	c := neigh.New(own, most)
	if c == nil {
		t.Fatalf("New(.., %d): nil", most)
	}
	p := &pair{t, c, &plain{own: own, most: most}}
	p.look("a new one")
	return p
}

func (p *pair) ask(src, ip uint32, data []byte, now int) []string {
	p.t.Helper()
	got := sends(p.cache.Ask(src, ip, data, now))
	p.check(fmt.Sprintf("Ask(%08x, %08x, %x, %d)", src, ip, data, now), got, p.plain.ask(src, ip, data, now))
	return got
}

func (p *pair) on(m api.Arp, own uint32, now int) []string {
	p.t.Helper()
	got := sends(p.cache.On(m, own, now))
	p.check(fmt.Sprintf("On(%v, %08x, %d)", m, own, now), got, p.plain.on(m, own, now))
	return got
}

func (p *pair) tick(now int) []string {
	p.t.Helper()
	got := sends(p.cache.Tick(now))
	p.check(fmt.Sprintf("Tick(%d)", now), got, p.plain.tick(now))
	return got
}

func (p *pair) clear() {
	p.t.Helper()
	p.cache.Clear()
	p.plain.list = nil
	p.look("Clear")
}

func (p *pair) check(what string, got, want []string) {
	p.t.Helper()
	if !slices.Equal(got, want) {
		p.t.Errorf("%s: %q, want %q", what, got, want)
	}
	p.look(what)
}

// look holds all that can be seen without a call that tells the time.
func (p *pair) look(what string) {
	p.t.Helper()
	if got, want := p.cache.Look(), p.plain.look(); !slices.Equal(got, want) {
		p.t.Errorf("%s: Look: %v, want %v", what, got, want)
	}
	at, some := p.cache.Next()
	if wantAt, wantSome := p.plain.next(); at != wantAt || some != wantSome {
		p.t.Errorf("%s: Next: %d, %v, want %d, %v", what, at, some, wantAt, wantSome)
	}
}

// saw holds answers against those that a test writes out; the pair alone might have one fault twice.
func (p *pair) saw(got []string, want ...string) {
	p.t.Helper()
	if !slices.Equal(got, want) {
		p.t.Errorf("%q, want %q", got, want)
	}
}

// has holds all entries against those that a test writes out.
func (p *pair) has(want ...api.Neigh) {
	p.t.Helper()
	if got := p.cache.Look(); !slices.Equal(got, want) {
		p.t.Errorf("Look: %v, want %v", got, want)
	}
}

// told is a message that says that the station mac has ip.
func told(mac api.Mac, ip uint32) api.Arp {
	return api.Arp{Op: 2, SrcMac: mac, SrcIp: ip, DstMac: stationA, DstIp: ours}
}

// asks is a question of the station mac, which has ip, for another address.
func asks(mac api.Mac, ip, dst uint32) api.Arp {
	return api.Arp{Op: 1, SrcMac: mac, SrcIp: ip, DstIp: dst}
}

// isAsked and isKnown are entries as Look tells them.
func isAsked(ip uint32, until, tries int) api.Neigh {
	return api.Neigh{Ip: ip, State: 1, Until: until, Tries: tries, Waiting: true}
}

func isKnown(ip uint32, mac api.Mac, until int) api.Neigh {
	return api.Neigh{Ip: ip, Mac: mac, State: 2, Until: until}
}

// know makes an entry known at a time, by a question.
func (p *pair) know(ip uint32, mac api.Mac, now int) {
	p.t.Helper()
	p.on(asks(mac, ip, ours), ours, now)
}
