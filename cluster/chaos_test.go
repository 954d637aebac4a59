package cluster_test

import (
	"bytes"
	"fmt"
	"math/rand"
	"testing"

	"gazette/api"
	"gazette/cluster"
	"gazette/history"
	"gazette/lineage"
	"gazette/partfsm"
	"gazette/placement"
)

// chaos plays steps of any kind, and holds what comes of them against P22.2 to P22.5.
type chaos struct {
	t                *testing.T
	random           *rand.Rand
	c                *cluster.Cluster
	servers, clients int
	seed             int64
	leaders          map[[2]uint64]int    // by groups and terms
	states           map[[2]uint64][]byte // by groups and indexes
}

func newChaos(t *testing.T, seed int64) *chaos {
	random := rand.New(rand.NewSource(seed))
	servers, clients := 1+random.Intn(5), 1+random.Intn(2)
	if random.Intn(3) > 0 {
		servers = 3 + random.Intn(3)
	}
	return &chaos{t: t, random: random, c: newCluster(t, servers, clients), servers: servers, clients: clients, seed: seed, leaders: map[[2]uint64]int{}, states: map[[2]uint64][]byte{}}
}

func (x *chaos) node() int { return 1 + x.random.Intn(x.servers+x.clients) }

func (x *chaos) server() int { return 1 + x.random.Intn(x.servers) }

func (x *chaos) nodes() []int {
	var l []int
	for n := 1; n <= x.servers; n++ {
		if x.random.Intn(5) < 3 {
			l = append(l, n)
		}
	}
	if len(l) == 0 {
		l = append(l, x.server())
	}
	return l
}

// admin is a random command of the placement's, near to what there is.
func (x *chaos) admin() api.PlaceCommand {
	topic := string(rune('t' + x.random.Intn(8)/7))
	c := api.PlaceCommand{Kind: api.PlaceCreate, Topic: topic, Nodes: x.nodes()}
	var shards []api.Shard
	for n := 1; n <= x.servers; n++ {
		if p, ok := x.c.Place(n); ok {
			for _, t := range p.Topics {
				if t.Name == topic {
					shards = t.Shards
				}
			}
		}
	}
	if len(shards) == 0 {
		return c
	}
	i := x.random.Intn(len(shards))
	c.Group, c.Key = shards[i].Group, string(rune('a'+x.random.Intn(8)))
	switch x.random.Intn(5) {
	case 0, 1:
		c.Kind = api.PlaceSplit
	case 2, 3:
		c.Kind = api.PlaceMove
		c.From = shards[i].Nodes[x.random.Intn(len(shards[i].Nodes))]
		c.To = x.server()
	default:
		c.Kind = api.PlaceMerge
		c.Other = shards[min(i+1, len(shards)-1)].Group
	}
	return c
}

func (x *chaos) hasTopics() bool {
	for n := 1; n <= x.servers; n++ {
		if p, _ := x.c.Place(n); len(p.Topics) > 0 {
			return true
		}
	}
	return false
}

func (x *chaos) randomCall() api.Call {
	call := api.Call{Topic: string(rune('t' + x.random.Intn(8)/7)), Key: string(rune('a' + x.random.Intn(8)))}
	kind := x.random.Intn(12)
	if !x.hasTopics() && x.random.Intn(6) > 0 {
		kind = 0
	}
	switch kind {
	case 0, 1:
		return api.Call{Kind: api.CallAdmin, Admin: x.admin()}
	case 2:
		call.Kind, call.Offset, call.Most = api.CallFetch, uint64(x.random.Intn(4)), 1+x.random.Intn(9)
	case 3, 4:
		call.Kind, call.Name, call.Offset = api.CallCommit, "c", uint64(x.random.Intn(4))
	case 5:
		call.Kind, call.Name = api.CallRead, "c"
	case 6:
		call = api.Call{Kind: api.CallRoute, Topic: call.Topic}
	default:
		call.Kind, call.Value = api.CallProduce, make([]byte, x.random.Intn(40))
	}
	return call
}

// disturb does a step that no calm has, now and then.
func (x *chaos) disturb(often int) {
	if x.random.Intn(1000) >= often {
		return
	}
	switch n := x.server(); x.random.Intn(10) {
	case 0, 1, 2:
		x.c.Do(api.Step{Kind: api.StepCrash, Node: n, N: x.random.Intn(100)})
	case 3, 4:
		x.c.Do(api.Step{Kind: api.StepTrip, Node: n, N: x.random.Intn(9)})
	case 5:
		x.c.Do(api.Step{Kind: api.StepFull, Node: n, N: x.random.Intn(9)})
	case 6, 7:
		x.c.Do(api.Step{Kind: api.StepPart, N: x.random.Intn(128)})
	default:
		x.c.Do(api.Step{Kind: api.StepHeal})
	}
}

// deliver delivers packets of a link, but for some that are lost, doubled, or late.
func (x *chaos) deliver(from, to int, loss int) {
	for range x.c.Bag(from, to) {
		s := api.Step{Kind: api.StepDeliver, Node: from, To: to}
		switch n := x.random.Intn(100); {
		case n < loss:
			s.Kind = api.StepDrop
		case n < 2*loss:
			s.Kind = api.StepDouble
		case n < 3*loss:
			s.At = x.random.Intn(4)
		case n < 5*loss:
			return
		}
		x.c.Do(s)
	}
}

// play does a round as a wild world has it.
func (x *chaos) play(often, loss int) {
	for n := 1; n <= x.servers+x.clients; n++ {
		if x.random.Intn(8) > 0 {
			x.c.Do(api.Step{Kind: api.StepTick, Node: n, N: 8 + 3*n + x.random.Intn(6)})
		}
		x.disturb(often)
	}
	for n := x.servers + 1; n <= x.servers+x.clients; n++ {
		if x.random.Intn(2) == 0 {
			x.c.Do(api.Step{Kind: api.StepCall, Node: n, Call: x.randomCall()})
		}
	}
	for range 1 + x.random.Intn(5) {
		for from := 1; from <= x.servers+x.clients; from++ {
			for to := 1; to <= x.servers+x.clients; to++ {
				x.deliver(from, to, loss)
				x.disturb(often / 30)
			}
		}
	}
	for n := 1; n <= x.servers; n++ {
		if x.c.Down(n) && x.random.Intn(8) == 0 {
			x.c.Do(api.Step{Kind: api.StepRise, Node: n})
		}
	}
	if x.random.Intn(12) == 0 {
		x.c.Do(api.Step{Kind: api.StepHeal})
	}
}

// look holds what servers say against each other.
func (x *chaos) look() {
	x.t.Helper()
	for n := 1; n <= x.servers; n++ {
		p, ok := x.c.Place(n)
		if ok && placement.Check(p) != api.OK {
			x.t.Fatal(x.seed, "a placement that may not be")
		}
		for g := range max(p.NextGroup, 12) {
			if s, ok := x.c.Status(n, g); ok && s.Role == api.Leader {
				key := [2]uint64{g, s.Hard.Term}
				if other := x.leaders[key]; other != 0 && other != n {
					x.t.Fatal(x.seed, "two lead", g, s.Hard.Term)
				}
				x.leaders[key] = n
			}
			if s, index, ok := x.c.Shard(n, g); ok {
				key, b := [2]uint64{g, index}, partfsm.Bytes(s)
				if other, known := x.states[key]; known && !bytes.Equal(other, b) {
					x.t.Fatal(x.seed, "two states of an index", g, index)
				}
				x.states[key] = b
			}
		}
	}
}

// check is history's, of all that was said so far.
func (x *chaos) check() {
	x.t.Helper()
	place, rest := api.Story{}, x.c.Stories()
	if len(rest) > 0 && rest[0].Group == 0 {
		place, rest = rest[0], rest[1:]
	}
	dids := x.c.Dids()
	if e, at := history.Check(place, rest, dids[:min(len(dids), api.MaxCalls)]); e != api.OK {
		what := ""
		if at >= 0 && at < len(dids) {
			what = fmt.Sprintf("%+v", dids[at])
		}
		x.t.Fatal(x.seed, "history says", e, at, what)
	}
}

// stuck: is a plan one that may stay, because no order joins the records?
func (x *chaos) stuck(p api.Plan) bool {
	if p.Kind != api.PlanMerge || p.Step != 2 {
		return false
	}
	var parts []api.Part
	for _, g := range []uint64{p.Group, p.Other} {
		for n := 1; n <= x.servers; n++ {
			if s, _, ok := x.c.Shard(n, g); ok && s.Frozen == p.ID {
				parts = append(parts, s)
				break
			}
		}
	}
	if len(parts) != 2 {
		return false
	}
	_, e := lineage.Merge(parts[0], parts[1])
	return e != api.OK
}

// calm plays P22.5.
func (x *chaos) calm() {
	x.t.Helper()
	x.c.Do(api.Step{Kind: api.StepHeal})
	for n := 1; n <= x.servers; n++ {
		x.c.Do(api.Step{Kind: api.StepTrip, Node: n, N: -1})
		x.c.Do(api.Step{Kind: api.StepFull, Node: n, N: -1})
		if x.c.Down(n) {
			do(x.t, x.c, api.Step{Kind: api.StepRise, Node: n})
		}
		if x.c.Down(n) {
			x.t.Fatal(x.seed, "a server that does not rise")
		}
	}
	left := ""
	for i := range 401 {
		if left = x.open(); left == "" {
			if i > 100 {
				x.t.Log(x.seed, "rounds", i)
			}
			return
		}
		round(x.t, x.c, x.servers, x.clients)
	}
	x.t.Fatal(x.seed, "it has not ended: ", left)
}

// open is what has not ended.
func (x *chaos) open() string {
	for _, d := range x.c.Dids() {
		if d.Ended == 0 {
			return fmt.Sprintf("%+v", d)
		}
	}
	for n := 1; n <= min(3, x.servers); n++ {
		p, ok := x.c.Place(n)
		if !ok {
			return "no placement"
		}
		for _, plan := range p.Plans {
			if !x.stuck(plan) {
				return fmt.Sprintf("%+v", plan)
			}
		}
	}
	return ""
}

func TestChaos(t *testing.T) {
	for seed := range int64(100) {
		x := newChaos(t, seed)
		for i := range 400 {
			x.play([]int{0, 10, 30, 60}[seed%4], int(seed%5))
			if i%5 == 0 {
				x.look()
			}
		}
		x.check()
		x.calm()
		x.look()
		x.check()
	}
}
