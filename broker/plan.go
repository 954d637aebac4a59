package broker

import (
	"slices"

	"gazette/api"
	"gazette/lineage"
	"gazette/multiraft"
	"gazette/partfsm"
	"gazette/placement"
	"gazette/plans"
)

const (
	// maxLog is how many entries a group's log has till it is compacted.
	maxLog = 24
	// tickBytes is how many bytes of snapshots come at a tick of one node's own doing: they stand in one batch of its log.
	tickBytes = 2 * api.MaxSeed
	// stepRemove is the step of a move by which a node leaves the configuration, the last one that looks at that.
	stepRemove = 2
)

// Tick is a tick of the clock: packets that go out.
func (b *Broker) Tick(h *multiraft.Host) []api.Packet {
	if h == nil {
		return nil
	}
	var out []api.Packet
	if b.ticks%api.ReportLast == 0 {
		own := b.own(h)
		out = append(b.report(own), b.carryOut(h, own)...)
	}
	b.ticks++
	b.compact(h)
	return out
}

// report tells each other server what this one has.
func (b *Broker) report(own report) []api.Packet {
	var out []api.Packet
	for _, n := range b.servers {
		if n != b.id {
			out = append(out, b.packet(n, api.PacketReport, own.bytes()))
		}
	}
	return out
}

// compact makes snapshots of states whose logs are long; what comes to too much at once has time.
func (b *Broker) compact(h *multiraft.Host) {
	left := tickBytes
	for _, group := range h.Groups() {
		s, _ := h.Status(group)
		if s.Last-s.Base <= maxLog {
			continue
		}
		data, index := b.snapshot(group)
		if index > s.Base && len(data) <= left && h.Compact(group, index, data) == api.OK {
			left -= len(data)
		}
	}
}

// snapshot is a group's state as bytes, and up to which index it is; 0: there is none.
func (b *Broker) snapshot(group uint64) ([]byte, uint64) {
	if group == 0 && b.place != nil {
		return placement.Bytes(b.place.place), b.place.index
	}
	if x := b.shards[group]; x != nil {
		return partfsm.Bytes(x.part), x.index
	}
	return nil, 0
}

// coordinator is the node that leads the placement's group, while it gives its orders.
type coordinator struct {
	*Broker
	host  *multiraft.Host
	world world
	seeds int // bytes of those with which groups were created here
	out   []api.Packet
}

// carryOut orders, if this node leads the placement's group, what is needed for plans and topics.
func (b *Broker) carryOut(h *multiraft.Host, own report) []api.Packet {
	b.prune()
	s, live := h.Status(0)
	if !live || s.Role != api.Leader || b.place == nil {
		return nil
	}
	c := &coordinator{Broker: b, host: h, world: b.look(own)}
	for _, x := range b.place.place.Plans {
		c.goOn(x)
	}
	for _, t := range b.place.place.Topics {
		for _, s := range t.Shards {
			c.first(s)
		}
	}
	c.sweep()
	return c.out
}

// prune lets states go of which no plan has need any more.
func (b *Broker) prune() {
	for group, p := range b.states {
		if b.needs(group) != p.Frozen {
			delete(b.states, group)
		}
	}
}

func (c *coordinator) order(to int, o order) {
	c.out = append(c.out, c.send(c.host, to, o)...)
}

// goOn does what a plan asks for next.
func (c *coordinator) goOn(x api.Plan) {
	seen, enough := c.world.seen(x)
	if !enough {
		return
	}
	actions, _ := plans.Next(x, seen)
	var children map[uint64][]byte
	for _, a := range actions {
		leader, _ := c.world.leader(a.Group)
		o := order{kind: a.Kind, group: a.Group, plan: x.ID, node: a.Node, change: a.Change}
		switch a.Kind {
		case api.ActStep:
			c.host.Propose(0, placement.Command(api.PlaceCommand{Kind: api.PlaceStep, Plan: x.ID, Step: a.Step}))
		case api.ActChange:
			o.conf = seen.Conf
			fallthrough
		case api.ActFreeze, api.ActTransfer:
			c.order(leader, o)
		case api.ActDestroy:
			c.order(a.Node, o)
		case api.ActCreate:
			if children == nil {
				children = c.children(x)
			}
			c.create(x, o, children)
		}
	}
}

// create orders a group to be made: of a move an empty one, else one with what it is born with.
func (c *coordinator) create(x api.Plan, o order, children map[uint64][]byte) {
	seed, known := children[o.group]
	switch {
	case x.Kind == api.PlanMove:
		c.orderCreate(o)
	case known && len(seed) <= api.MaxSeed:
		o.conf, o.seed = api.Conf{Voters: x.Nodes}, seed
		c.orderCreate(o)
	}
}

// orderCreate orders a group to be made on the order's node; here no more of them at once than stand in a batch of the log.
func (c *coordinator) orderCreate(o order) {
	if o.node == c.id {
		if c.seeds > 0 && c.seeds+len(o.seed) > api.MaxSeed {
			return
		}
		c.seeds += len(o.seed)
	}
	c.order(o.node, o)
}

// children are the states, as bytes, of the groups that a plan makes; of parents that are not known here their leaders are asked.
func (c *coordinator) children(x api.Plan) map[uint64][]byte {
	seeds := map[uint64][]byte{}
	switch x.Kind {
	case api.PlanSplit:
		p := c.parent(x.Group, x.ID)
		if lower, upper, e := lineage.Split(p, x.Key); e == api.OK {
			seeds[x.Into[0]], seeds[x.Into[1]] = partfsm.Bytes(lower), partfsm.Bytes(upper)
		}
	case api.PlanMerge:
		p, other := c.parent(x.Group, x.ID), c.parent(x.Other, x.ID)
		if joined, e := lineage.Merge(p, other); e == api.OK {
			seeds[x.Into[0]] = partfsm.Bytes(joined)
		}
	}
	return seeds
}

// parent is a frozen shard's state; where it is not known, it is none that may be.
func (c *coordinator) parent(group uint64, plan uint64) api.Part {
	p, known := c.frozen(group, plan)
	if !known {
		leader, _ := c.world.leader(group)
		c.order(leader, order{kind: askState, group: group, plan: plan})
		return api.Part{}
	}
	return p
}

// needs is by which plan a group's shard is parted or joined next; 0: by none.
func (b *Broker) needs(group uint64) uint64 {
	if b.place == nil {
		return 0
	}
	for _, x := range b.place.place.Plans {
		splits := x.Kind == api.PlanSplit && x.Step <= 1
		merges := x.Kind == api.PlanMerge && x.Step <= 2
		if splits && group == x.Group || merges && (group == x.Group || group == x.Other) {
			return x.ID
		}
	}
	return 0
}

// first orders a topic's first shard to be made where a node's report does not have it.
func (c *coordinator) first(s api.Shard) {
	if s.Epoch != 1 || len(s.Past) > 0 {
		return
	}
	p, e := partfsm.New(s.Range, s.Epoch)
	if e != api.OK {
		return
	}
	for _, n := range s.Nodes {
		if r, known := c.world[n]; known && !slices.Contains(r.live, s.Group) {
			c.orderCreate(order{kind: api.ActCreate, group: s.Group, node: n, conf: api.Conf{Voters: s.Nodes}, seed: partfsm.Bytes(p)})
		}
	}
}

// sweep orders groups to be destroyed that have ended: a node that was down then may have one still. Their numbers never come again.
func (c *coordinator) sweep() {
	p := c.place.place
	needed := map[uint64]struct{}{}
	for _, t := range p.Topics {
		for _, s := range t.Shards {
			needed[s.Group] = struct{}{}
		}
	}
	for _, x := range p.Plans {
		for _, group := range append(slices.Clone(x.Into), x.Group, x.Other) {
			needed[group] = struct{}{}
		}
	}
	for n := 1; n <= api.MaxNodes; n++ {
		for _, group := range c.world[n].live {
			if _, is := needed[group]; !is && group != 0 && group < p.NextGroup {
				c.order(n, order{kind: api.ActDestroy, group: group})
			}
		}
	}
}
