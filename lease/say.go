package lease

import (
	"slipway/api"
	"slipway/bootp"
	"slipway/option"
)

const (
	nobody   uint32 = 0 // who has no address yet
	everyone uint32 = 1<<32 - 1
)

func (c *Client) discover(t turn) { c.send(t, api.Discover, nobody, everyone, c.secs()) }

// request asks for the lease: by its name, while it is offered; from its own address, once it is held.
func (c *Client) request(t turn) {
	switch c.state {
	case api.LeaseRequesting:
		c.send(t, api.Request, nobody, everyone, c.secs(), c.names()...)
	case api.LeaseRenewing:
		c.send(t, api.Request, c.lease.Ip, c.lease.Server, c.secs())
	case api.LeaseRebinding:
		c.send(t, api.Request, c.lease.Ip, everyone, c.secs())
	}
}

func (c *Client) decline(t turn) { c.send(t, api.Decline, nobody, everyone, 0, c.names()...) }

// send tells a message; the address that it goes out from is the one that it says the client has.
func (c *Client) send(t turn, kind int, from, to uint32, secs int, more ...api.Option) {
	m := bootp.Ask(kind, c.own, c.xid, secs, from, more...)
	t.tell(api.LeaseAct{Kind: api.LeaseSend, From: from, To: to, Msg: m})
}

// secs is how long ago the question began; Ask holds it to what a message has room for.
func (c *Client) secs() int { return (c.now - c.began) / api.Second }

// names is which lease is meant.
func (c *Client) names() []api.Option {
	return []api.Option{option.Numbered(api.OptWanted, c.lease.Ip), option.Numbered(api.OptServer, c.lease.Server)}
}
