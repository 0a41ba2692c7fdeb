package lease

import "slipway/api"

const (
	firstWait  = 40 // ticks that Backoff makes of the first try
	mostWait   = 640
	mostTries  = 5
	probedFor  = 10
	restsFor   = 100
	leastAgain = 600 // ticks at least between Requests for a held lease
	manyStates = api.LeaseRebinding + 1
)

// atDue is what is done at each state's time. None of a held lease's times comes ahead of Due, so that nothing is to be done with it ahead of that.
func (c *Client) atDue() [manyStates]func(turn) {
	return [manyStates]func(turn){
		api.LeaseInit:       c.begin,
		api.LeaseSelecting:  c.askAgain,
		api.LeaseRequesting: c.askAgain,
		api.LeaseProbing:    c.probed,
		api.LeaseBound:      c.holdOn,
		api.LeaseRenewing:   c.holdOn,
		api.LeaseRebinding:  c.holdOn,
	}
}

// goOn is told the time, and does what is due.
func (c *Client) goOn(now int, t turn) {
	c.hear(now)
	if c.isDue(c.due) {
		c.atDue()[c.state](t)
	}
}

func (c *Client) hear(now int) { c.now = min(max(c.now, now), api.MaxTime) }

func (c *Client) isDue(at int) bool { return at != never && at <= c.now }

func (c *Client) wait(ticks int) { c.due = behind(c.now, ticks) }

func behind(at, ticks int) int { return min(at+ticks, api.MaxTime) }

// question opens a new one: what answers an older one is not heard any more.
func (c *Client) question(t turn) { c.xid, c.began = t.d.Next(), c.now }

func (c *Client) begin(t turn) {
	c.question(t)
	c.lease = api.Lease{}
	c.state, c.tries = api.LeaseSelecting, 1
	c.ask(t)
}

func (c *Client) askAgain(t turn) {
	if c.tries == mostTries {
		c.begin(t)
		return
	}
	c.tries++
	c.ask(t)
}

// ask sends what the state asks by, and waits the longer the more tries were made.
func (c *Client) ask(t turn) {
	if c.state == api.LeaseSelecting {
		c.discover(t)
	} else {
		c.request(t)
	}
	c.wait(t.d.Backoff(firstWait, mostWait, c.tries))
}

func (c *Client) probe(l api.Lease, t turn) {
	c.lease = l
	c.state, c.tries = api.LeaseProbing, 0
	t.tell(api.LeaseAct{Kind: api.LeaseProbe, Lease: l})
	c.wait(probedFor)
}

// probed: nobody else has said that the address is his.
func (c *Client) probed(t turn) {
	if c.isDue(c.lease.Until) {
		c.begin(t)
		return
	}
	c.adopt(c.lease, t)
}

func (c *Client) adopt(l api.Lease, t turn) {
	c.lease = l
	c.state, c.tries, c.due = api.LeaseBound, 0, l.T1
	t.tell(api.LeaseAct{Kind: api.LeaseAdopt, Lease: l})
	c.holdOn(t)
}

// holdOn does what a held lease's times ask for: the last of them first, as several may be over at once. While LeaseBound Due is T1: it never comes to the last case.
func (c *Client) holdOn(t turn) {
	switch {
	case c.isDue(c.lease.Until):
		c.letGo(t)
		c.begin(t)
	case c.state != api.LeaseRebinding && c.isDue(c.lease.T2):
		c.renewAs(api.LeaseRebinding, t)
	case c.state == api.LeaseBound && c.isDue(c.lease.T1):
		c.renewAs(api.LeaseRenewing, t)
	case c.isDue(c.due):
		c.renew(t)
	}
}

func (c *Client) renewAs(state int, t turn) {
	c.state = state
	c.question(t)
	c.renew(t)
}

// renew asks for a held lease, and waits, but not past the time at which the state ends.
func (c *Client) renew(t turn) {
	c.request(t)
	end := c.lease.T2
	if c.state == api.LeaseRebinding {
		end = c.lease.Until
	}
	c.wait(max((end-c.now)/2, leastAgain))
	c.due = min(c.due, end)
}

// letGo tells that a lease is held no more, if one was; what comes behind takes it away.
func (c *Client) letGo(t turn) {
	if c.holds() {
		t.tell(api.LeaseAct{Kind: api.LeaseDrop, Lease: c.lease})
	}
}

func (c *Client) rest() {
	c.lease = api.Lease{}
	c.state, c.tries = api.LeaseInit, 0
	c.wait(restsFor)
}
