package cluster

import (
	"gazette/api"
	"gazette/broker"
	"gazette/copies"
)

func (c *Cluster) tick(s api.Step) api.Errno {
	x, y := c.servers[s.Node], c.clients[s.Node]
	switch {
	case s.N < 1 || x == nil && y == nil:
		return api.ErrClusterStep
	case y != nil:
		c.give(y, api.ClientInput{Kind: api.ClientTick})
	case x.host != nil:
		x.host.Tick(s.N)
		c.round(x, x.broker.Tick(x.host))
	}
	return api.OK
}

func (c *Cluster) deliver(s api.Step) api.Errno {
	p, e := c.net.Deliver(s.Node, s.To, s.At)
	if e != api.OK {
		return api.ErrClusterStep
	}
	if x := c.up(p.To); x != nil {
		c.round(x, x.receive(p))
	}
	y := c.clients[p.To]
	if y == nil || p.Kind != api.PacketReply {
		return api.OK
	}
	if r, e := broker.ReadReply(p.Data); e == api.OK {
		c.give(y, api.ClientInput{Kind: api.ClientReply, Reply: r})
	}
	return api.OK
}

// onNet is a net's answer as a step's.
func onNet(e api.Errno) api.Errno {
	if e != api.OK {
		return api.ErrClusterStep
	}
	return api.OK
}

func (c *Cluster) drop(s api.Step) api.Errno { return onNet(c.net.Drop(s.Node, s.To, s.At)) }

func (c *Cluster) double(s api.Step) api.Errno { return onNet(c.net.Double(s.Node, s.To, s.At)) }

func (c *Cluster) call(s api.Step) api.Errno {
	x := c.clients[s.Node]
	if x == nil {
		return api.ErrClusterStep
	}
	return c.give(x, api.ClientInput{Kind: api.ClientCall, Call: s.Call})
}

// begin notes a call that a client took.
func (c *Cluster) begin(x *caller, call api.Call) {
	x.calls++
	x.did = len(c.dids)
	d := api.Did{Client: x.id, Number: x.calls, Call: copies.Call(call), Began: c.steps}
	switch call.Kind {
	case api.CallProduce, api.CallCommit, api.CallAdmin:
		d.Producer, d.Seq = x.state.Producer, x.state.Seq
	}
	c.dids = append(c.dids, d)
}

func (c *Cluster) crash(s api.Step) api.Errno {
	x := c.up(s.Node)
	if x == nil {
		return api.ErrClusterStep
	}
	x.stop(s.N)
	return api.OK
}

func (c *Cluster) rise(s api.Step) api.Errno {
	if !c.Down(s.Node) {
		return api.ErrClusterStep
	}
	x := c.servers[s.Node]
	x.rise()
	if x.host != nil {
		c.round(x, nil)
	}
	return api.OK
}

func (c *Cluster) part(s api.Step) api.Errno {
	var side []int
	for id := 1; id <= len(c.servers)+len(c.clients); id++ {
		if s.N>>(id-1)&1 == 1 {
			side = append(side, id)
		}
	}
	return onNet(c.net.Part(side))
}

func (c *Cluster) heal(api.Step) api.Errno {
	c.net.Heal()
	return api.OK
}

func (c *Cluster) trip(s api.Step) api.Errno {
	if c.servers[s.Node] == nil {
		return api.ErrClusterStep
	}
	if x := c.up(s.Node); x != nil {
		x.disk.Trip(s.N)
	}
	return api.OK
}

func (c *Cluster) full(s api.Step) api.Errno {
	if c.servers[s.Node] == nil {
		return api.ErrClusterStep
	}
	if x := c.up(s.Node); x != nil {
		x.disk.Fail(s.N)
	}
	return api.OK
}
