package broker_test

import (
	"bytes"
	"math/rand"
	"slices"
	"testing"

	"gazette/api"
	"gazette/broker"
	"gazette/lineage"
	"gazette/multiraft"
	"gazette/partfsm"
	"gazette/placement"
	"gazette/simdisk"
)

// party is servers with their brokers, and packets between them.
type party struct {
	t       *testing.T
	random  *rand.Rand
	hosts   []*multiraft.Host
	brokers []*broker.Broker
	away    int // a server that hears and says nothing; 0: none
	loss    int // of so many packets one is lost
	bag     []api.Packet
	seq     uint64
}

func newParty(t *testing.T, size int) *party {
	x := &party{t: t, random: rand.New(rand.NewSource(1))}
	var all []int
	for id := 1; id <= size; id++ {
		all = append(all, id)
	}
	for id := 1; id <= size; id++ {
		d, _ := simdisk.New(api.MaxRoom)
		h, _ := multiraft.New(id, d)
		b, e := broker.New(id, all)
		if e != api.OK {
			t.Fatal(e)
		}
		x.hosts, x.brokers = append(x.hosts, h), append(x.brokers, b)
		if id <= 3 {
			h.Create(0, api.Conf{Voters: []int{1, 2, 3}}, placement.Bytes(placement.New()))
		}
		x.settle(id, nil)
	}
	return x
}

// settle plays a server's round.
func (x *party) settle(id int, out []api.Packet) {
	packets, l, e := x.hosts[id-1].Round()
	if e != api.OK {
		x.t.Fatal(e)
	}
	out = append(append(out, packets...), x.brokers[id-1].Told(l)...)
	for _, p := range out {
		if p.To <= len(x.hosts) && id != x.away && p.To != x.away && (x.loss == 0 || x.random.Intn(x.loss) > 0) {
			x.bag = append(x.bag, p)
		}
	}
}

func (x *party) round() {
	for id, h := range x.hosts {
		if id+1 == x.away {
			continue
		}
		h.Tick(10 + 5*(id+1))
		x.settle(id+1, x.brokers[id].Tick(h))
	}
	for len(x.bag) > 0 {
		p := x.bag[0]
		x.bag = x.bag[1:]
		h, b := x.hosts[p.To-1], x.brokers[p.To-1]
		var out []api.Packet
		if p.Kind == api.PacketRaft || p.Kind == api.PacketBeat {
			h.Receive(p)
		} else {
			out, _ = b.Receive(h, p)
		}
		x.settle(p.To, out)
	}
	x.whole()
}

// whole: are the placement's shards all keys at every moment?
func (x *party) whole() {
	for _, b := range x.brokers {
		if p, ok := b.Place(); ok && placement.Check(p) != api.OK {
			x.t.Fatal("a placement that may not be", p)
		}
	}
}

// admin lets whoever leads the placement's group put a command in, once somebody does.
func (x *party) admin(c api.PlaceCommand) {
	x.t.Helper()
	x.seq++
	c.Producer, c.Seq = 7, x.seq
	for range 200 {
		for id, h := range x.hosts {
			s, ok := h.Status(0)
			if !ok || s.Role != api.Leader || id+1 == x.away {
				continue
			}
			r := api.Request{Kind: api.CallAdmin, Admin: c}
			p := api.Packet{From: 7, To: id + 1, Kind: api.PacketRequest, Data: broker.Request(r)}
			if out, e := x.brokers[id].Receive(h, p); e == api.OK && len(out) == 0 {
				x.settle(id+1, nil)
				x.round()
				return
			}
		}
		x.round()
	}
	x.t.Fatal("nobody leads the placement")
}

func (x *party) place() api.Place {
	var newest api.Place
	for _, b := range x.brokers {
		if p, ok := b.Place(); ok && p.NextGroup+p.NextPlan >= newest.NextGroup+newest.NextPlan {
			newest = p
		}
	}
	return newest
}

// ends plays rounds till no plan is under way: how many.
func (x *party) ends() int {
	x.t.Helper()
	for i := range 400 {
		busy := false
		for id, b := range x.brokers {
			p, _ := b.Place()
			busy = busy || len(p.Plans) > 0 && id+1 != x.away
		}
		if !busy {
			return i
		}
		x.round()
	}
	x.t.Fatal("a plan that does not end", x.place().Plans)
	return 0
}

func (x *party) produce(group uint64, epoch, seq uint64, key string) {
	x.t.Helper()
	for range 200 {
		for id, h := range x.hosts {
			s, ok := h.Status(group)
			c := produce(seq, key)
			c.Epoch = epoch
			if ok && s.Role == api.Leader {
				h.Propose(group, partfsm.Command(c))
				x.settle(id+1, nil)
				x.round()
				return
			}
		}
		x.round()
	}
	x.t.Fatal("nobody leads", group)
}

func (x *party) shard(group uint64) api.Part {
	x.t.Helper()
	var newest api.Part
	var at uint64
	for _, b := range x.brokers {
		if p, index, ok := b.Shard(group); ok && index > at {
			newest, at = p, index
		}
	}
	if at == 0 {
		x.t.Fatal("nobody has", group)
	}
	return newest
}

func same(a, b api.Part) bool { return bytes.Equal(partfsm.Bytes(a), partfsm.Bytes(b)) }

func frozen(t *testing.T, p api.Part) api.Part {
	p, r := partfsm.Do(p, api.PartCommand{Kind: api.PartFreeze, Epoch: p.Epoch, Plan: 99})
	if r.Err != api.OK {
		t.Fatal(r)
	}
	return p
}

// TestPlansEnd plays P20.3: children are what lineage makes of their parents, on nodes that have no placement too.
func TestPlansEnd(t *testing.T) {
	for loss := range 4 {
		x := newParty(t, 5)
		x.loss = 30 * loss
		x.admin(create(0, "t", 3, 4, 5))
		for i, key := range []string{"a", "m", "b"} {
			x.produce(1, 1, uint64(i+1), key)
		}
		for range 20 {
			x.round()
		}
		parent := x.shard(1)
		low, high, e := lineage.Split(frozen(t, parent), "c")
		x.admin(api.PlaceCommand{Kind: api.PlaceSplit, Topic: "t", Group: 1, Key: "c"})
		rounds := x.ends()
		if e != api.OK || loss == 0 && (!same(x.shard(2), low) || !same(x.shard(3), high)) {
			t.Error(e, x.shard(2), x.shard(3))
		}
		if _, _, ok := x.brokers[3].Shard(1); ok && loss == 0 {
			t.Error("a parent that has ended is there still")
		}
		x.admin(api.PlaceCommand{Kind: api.PlaceMove, Topic: "t", Group: 2, From: 3, To: 1})
		rounds = max(rounds, x.ends())
		if _, live := x.hosts[2].Status(2); live || !slices.Equal(x.place().Topics[0].Shards[0].Nodes, []int{1, 4, 5}) {
			t.Error(x.place().Topics[0])
		}
		x.admin(api.PlaceCommand{Kind: api.PlaceMove, Topic: "t", Group: 3, From: 3, To: 1})
		rounds = max(rounds, x.ends())
		joined, e := lineage.Merge(frozen(t, x.shard(2)), frozen(t, x.shard(3)))
		x.admin(api.PlaceCommand{Kind: api.PlaceMerge, Topic: "t", Group: 2, Other: 3})
		rounds = max(rounds, x.ends())
		if s := x.place().Topics[0].Shards; e != api.OK || len(s) != 1 || s[0].Group != 4 || !same(x.shard(4), joined) {
			t.Error(e, s)
		}
		if rounds > 200 {
			t.Error("so many rounds", loss, rounds)
		}
	}
}

// TestSomebodyElseGoesOn: the server that leads the placement is gone in the middle of a plan, at every step.
func TestSomebodyElseGoesOn(t *testing.T) {
	for after := range 24 {
		x := newParty(t, 4)
		x.admin(create(0, "t", 2, 3, 4))
		x.produce(1, 1, 1, "a")
		x.produce(1, 1, 2, "m")
		x.admin(api.PlaceCommand{Kind: api.PlaceSplit, Topic: "t", Group: 1, Key: "c"})
		for range after {
			x.round()
		}
		for id, h := range x.hosts {
			if s, ok := h.Status(0); ok && s.Role == api.Leader {
				x.away = id + 1
			}
		}
		for range 100 {
			x.round()
		}
		x.ends()
		x.away = 0
		x.ends()
		for range 100 {
			x.round()
		}
		if a, b := x.shard(2), x.shard(3); len(a.Records) != 1 || len(b.Records) != 1 {
			t.Error(after, a, b)
		}
		for _, h := range x.hosts {
			if slices.Contains(h.Groups(), 1) {
				t.Error(after, "a group that has ended is live still")
			}
		}
	}
}
