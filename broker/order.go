package broker

import (
	"slices"

	"gazette/api"
	"gazette/codec"
	"gazette/copies"
	"gazette/multiraft"
	"gazette/partfsm"
)

// askState is an order beside those that plans ask for: a frozen shard's state is to be told.
const askState api.ActKind = 8

// order is what a node is to do. All of them may come again, and late: each is such as does no harm then.
type order struct {
	kind   api.ActKind
	group  uint64
	plan   uint64
	node   int
	change api.Change
	conf   api.Conf // of a group that is created; of a change: the one that is changed
	seed   []byte
}

func (o order) bytes() []byte {
	w := &codec.Writer{}
	w.Int(int(o.kind))
	w.Uint(o.group)
	w.Uint(o.plan)
	w.Int(o.node)
	w.Int(int(o.change.Kind))
	w.Int(o.change.Node)
	w.Conf(o.conf)
	w.Bytes(o.seed)
	return w.Done()
}

func readOrder(b []byte) (order, api.Errno) {
	r := codec.NewReader(b)
	o := order{
		kind: api.ActKind(r.Int()), group: r.Uint(), plan: r.Uint(), node: r.Int(),
		change: api.Change{Kind: api.ChangeKind(r.Int()), Node: r.Int()}, conf: r.Conf(), seed: r.Bytes(api.MaxSeed),
	}
	if r.Done() != api.OK || o.group == 0 {
		return order{}, api.ErrBrokerWire
	}
	switch o.kind {
	case api.ActFreeze, api.ActCreate, api.ActDestroy, api.ActChange, api.ActTransfer, askState:
		return o, api.OK
	}
	return order{}, api.ErrBrokerWire
}

func (b *Broker) takeOrder(h *multiraft.Host, p api.Packet) ([]api.Packet, api.Errno) {
	o, e := readOrder(p.Data)
	if e != api.OK || !b.isServer(p.From) {
		return nil, e
	}
	return b.obey(h, o, p.From), api.OK
}

// obey does what is ordered; what can't be done now is ordered again.
func (b *Broker) obey(h *multiraft.Host, o order, from int) []api.Packet {
	switch o.kind {
	case api.ActFreeze:
		b.freeze(h, o)
	case api.ActCreate:
		h.Create(o.group, o.conf, o.seed)
	case api.ActDestroy:
		return b.destroy(h, o.group)
	case api.ActChange:
		// A change is of the configuration that its sender saw: one that is late must not be made of another one.
		if s, live := h.Status(o.group); live && sameConf(s.Conf, o.conf) {
			h.Change(o.group, o.change)
		}
	case api.ActTransfer:
		h.Transfer(o.group, o.node)
	case askState:
		if x := b.shards[o.group]; x != nil && x.part.Frozen == o.plan && from != b.id {
			return []api.Packet{b.state(from, o.group)}
		}
	}
	return nil
}

func sameConf(a, b api.Conf) bool {
	return slices.Equal(a.Voters, b.Voters) && slices.Equal(a.Learners, b.Learners)
}

func (b *Broker) freeze(h *multiraft.Host, o order) {
	if x := b.shards[o.group]; x != nil && x.part.Frozen == 0 {
		h.Propose(o.group, partfsm.Command(api.PartCommand{Kind: api.PartFreeze, Epoch: x.part.Epoch, Plan: o.plan}))
	}
}

// destroy ends a group here; whoever waits for an entry of it waits in vain.
func (b *Broker) destroy(h *multiraft.Host, group uint64) []api.Packet {
	if h.Destroy(group) != api.OK {
		return nil
	}
	b.destroyed[group] = b.ticks
	delete(b.shards, group)
	var out []api.Packet
	for _, p := range b.waiting(group, ^uint64(0)) {
		out = append(out, b.reply(b.pending[p], api.Reply{Err: api.ErrBrokerLost}))
		delete(b.pending, p)
	}
	return out
}

// send gives an order to a node: by a packet, or, here, at once.
func (b *Broker) send(h *multiraft.Host, to int, o order) []api.Packet {
	switch {
	case to == b.id:
		return b.obey(h, o, b.id)
	case b.isServer(to):
		return []api.Packet{b.packet(to, api.PacketOrder, o.bytes())}
	}
	return nil
}

// frozen is a shard's state that is frozen by a plan, as far as it is known here.
func (b *Broker) frozen(group uint64, plan uint64) (api.Part, bool) {
	if x := b.shards[group]; x != nil && x.part.Frozen == plan {
		return copies.Part(x.part), true
	}
	p, known := b.states[group]
	return p, known && p.Frozen == plan
}
