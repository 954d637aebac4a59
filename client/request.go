package client

import (
	"slices"

	"gazette/api"
	"gazette/copies"
)

// send asks, or gives up, if that was tried too often.
func (c *client) send() {
	if c.Tries >= api.MaxTries {
		c.giveUp()
		return
	}
	c.Tries++
	c.Number++
	c.Waited, c.Again = 0, false
	r, to := c.request()
	r.ID = c.Number
	c.Group = r.Group
	c.out.Send, c.out.To, c.out.Request = true, to, r
}

// request is what is asked next, and whom: for a route, while the call's shard is not known.
func (c *client) request() (api.Request, int) {
	c.Route = false
	if c.Call.Kind == api.CallAdmin {
		admin := copies.PlaceCommand(c.Call.Admin)
		admin.Producer, admin.Seq = c.Producer, c.Seq
		return api.Request{Kind: api.CallAdmin, Admin: admin}, c.to(0)
	}
	s, known := c.shard()
	if c.Call.Kind == api.CallRoute || !known {
		c.Route = c.Call.Kind != api.CallRoute
		return api.Request{Kind: api.CallRoute, Topic: c.Call.Topic}, c.server()
	}
	return api.Request{Kind: c.Call.Kind, Group: s.Group, Part: c.command(s.Epoch)}, c.to(s.Group)
}

// command is the call's, of a shard's epoch.
func (c *client) command(epoch uint64) api.PartCommand {
	x := c.Call
	switch x.Kind {
	case api.CallProduce:
		return api.PartCommand{Kind: api.PartProduce, Epoch: epoch, Producer: c.Producer, Seq: c.Seq, Key: x.Key, Value: copies.List(x.Value)}
	case api.CallFetch:
		return api.PartCommand{Kind: api.PartFetch, Epoch: epoch, Offset: x.Offset, Most: x.Most}
	case api.CallCommit:
		return api.PartCommand{Kind: api.PartCommit, Epoch: epoch, Producer: c.Producer, Seq: c.Seq, Name: x.Name, Offset: x.Offset}
	}
	return api.PartCommand{Kind: api.PartRead, Epoch: epoch, Name: x.Name}
}

// later lets the next tick ask again.
func (c *client) later() { c.Again, c.Waited = true, 0 }

func (c *client) end(r api.Reply) {
	c.out.Done, c.out.Reply = true, copies.Reply(r)
	c.Busy, c.Route, c.Again = false, false, false
	c.Call = api.Call{}
	c.Group, c.Tries, c.Waited = 0, 0, 0
}

// giveUp ends a call of which nobody knows whether it was done.
func (c *client) giveUp() { c.end(api.Reply{Err: api.ErrClientTime}) }

func (c *client) reply(in api.ClientInput) api.Errno {
	r := in.Reply
	if !c.Busy || c.Again || r.ID != c.Number {
		return api.OK
	}
	admin := c.Call.Kind == api.CallAdmin
	switch r.Err {
	case api.OK:
		c.answered(r)
	case api.ErrBrokerLeader:
		c.toldLeader(r.Leader)
	case api.ErrPartEpoch, api.ErrPartFrozen, api.ErrPartKey, api.ErrPlaceTopic:
		if admin {
			c.end(r)
			break
		}
		c.routeAnew()
	case api.ErrBrokerGroup:
		if admin {
			c.elsewhere()
			break
		}
		c.routeAnew()
	case api.ErrBrokerLost:
		if admin {
			c.giveUp()
			break
		}
		c.later()
	default:
		c.end(r)
	}
	return api.OK
}

// answered takes a reply without an error: it ends the call, or tells where it belongs.
func (c *client) answered(r api.Reply) {
	if c.Route || c.Call.Kind == api.CallRoute {
		name := c.Call.Topic
		c.Topics = put(c.Topics, api.Topic{Name: name, Shards: copies.Shards(r.Shards)}, called(name))
	}
	if !c.Route {
		c.end(r)
		return
	}
	if _, known := c.shard(); known {
		c.send()
		return
	}
	c.nextServer()
	c.later()
}

func (c *client) toldLeader(node int) {
	if slices.Contains(c.Servers, node) {
		c.Leaders = put(c.Leaders, api.Site{Group: c.Group, Node: node}, ofGroup(c.Group))
		c.send()
		return
	}
	c.elsewhere()
}

// elsewhere asks another server at the next tick.
func (c *client) elsewhere() {
	c.forget()
	c.nextServer()
	c.later()
}

// routeAnew asks for the topic's shards again: those that were known are not so any more.
func (c *client) routeAnew() {
	c.Topics = without(c.Topics, called(c.Call.Topic))
	c.elsewhere()
}
