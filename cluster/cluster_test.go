package cluster_test

import (
	"reflect"
	"testing"

	"gazette/api"
	"gazette/cluster"
)

func newCluster(t *testing.T, servers, clients int) *cluster.Cluster {
	t.Helper()
	c, e := cluster.New(servers, clients)
	if e != api.OK {
		t.Fatal(e)
	}
	return c
}

func do(t *testing.T, c *cluster.Cluster, s api.Step) {
	t.Helper()
	if e := c.Do(s); e != api.OK {
		t.Fatal(s, e)
	}
}

// deliver delivers all packets, link by link, again and again, till there are none.
func deliver(t *testing.T, c *cluster.Cluster, nodes int) {
	t.Helper()
	for some := true; some; {
		some = false
		for from := 1; from <= nodes; from++ {
			for to := 1; to <= nodes; to++ {
				for range c.Bag(from, to) {
					do(t, c, api.Step{Kind: api.StepDeliver, Node: from, To: to})
					some = true
				}
			}
		}
	}
}

// round is one of P22.5.
func round(t *testing.T, c *cluster.Cluster, servers, clients int) {
	t.Helper()
	for n := 1; n <= servers+clients; n++ {
		do(t, c, api.Step{Kind: api.StepTick, Node: n, N: 10 + 5*n})
	}
	deliver(t, c, servers+clients)
}

func rounds(t *testing.T, c *cluster.Cluster, servers, clients, count int) {
	t.Helper()
	for range count {
		round(t, c, servers, clients)
	}
}

func call(t *testing.T, c *cluster.Cluster, node int, x api.Call) {
	t.Helper()
	do(t, c, api.Step{Kind: api.StepCall, Node: node, Call: x})
}

func admin(x api.PlaceCommand) api.Call { return api.Call{Kind: api.CallAdmin, Admin: x} }

func produce(key, value string) api.Call {
	return api.Call{Kind: api.CallProduce, Topic: "t", Key: key, Value: []byte(value)}
}

// last is the reply of the last call, which must have ended.
func last(t *testing.T, c *cluster.Cluster) api.Reply {
	t.Helper()
	l := c.Dids()
	d := l[len(l)-1]
	if d.Ended == 0 {
		t.Fatal("the call has not ended", d)
	}
	return d.Reply
}

func TestExamples(t *testing.T) {
	for _, c := range [][2]int{{6, 0}, {0, 0}, {1, 3}, {1, -1}, {-1, 0}} {
		if x, e := cluster.New(c[0], c[1]); e != api.ErrClusterSize || x != nil {
			t.Error(c, e)
		}
	}
	c := newCluster(t, 3, 1)
	for range 3 {
		do(t, c, api.Step{Kind: api.StepTick, Node: 1, N: 1})
		deliver(t, c, 4)
	}
	if s, ok := c.Status(1, 0); !ok || s.Role != api.Leader || s.Hard.Term != 2 {
		t.Error(s, ok)
	}
	if e := c.Do(api.Step{Kind: 12}); e != api.ErrClusterStep {
		t.Error(e)
	}
	call(t, c, 4, admin(api.PlaceCommand{Kind: api.PlaceCreate, Topic: "t", Nodes: []int{1, 2, 3}}))
	rounds(t, c, 3, 1, 30)
	if r := last(t, c); r.Number != 1 || r.Err != api.OK {
		t.Error(r)
	}
	p, ok := c.Place(2)
	if !ok || len(p.Topics) != 1 || p.Topics[0].Shards[0].Range != (api.Range{}) {
		t.Error(p, ok)
	}
	for n := 1; n <= 3; n++ {
		if x, _, ok := c.Shard(n, 1); !ok || x.Epoch != 1 {
			t.Error(n, x, ok)
		}
	}
}

// TestPlans plays a topic's life: a split, a merge, a move.
func TestPlans(t *testing.T) {
	c := newCluster(t, 5, 2)
	rounds(t, c, 5, 2, 20)
	call(t, c, 6, admin(api.PlaceCommand{Kind: api.PlaceCreate, Topic: "t", Nodes: []int{3, 4, 5}}))
	rounds(t, c, 5, 2, 60)
	for _, k := range []string{"a", "m", "b"} {
		call(t, c, 7, produce(k, "v"+k))
		rounds(t, c, 5, 2, 5)
		if r := last(t, c); r.Err != api.OK {
			t.Fatal(r)
		}
	}
	call(t, c, 7, api.Call{Kind: api.CallCommit, Topic: "t", Key: "a", Name: "c", Offset: 2})
	rounds(t, c, 5, 2, 5)
	call(t, c, 6, admin(api.PlaceCommand{Kind: api.PlaceSplit, Topic: "t", Group: 1, Key: "c"}))
	rounds(t, c, 5, 2, 120)
	p, _ := c.Place(1)
	if len(p.Plans) != 0 || len(p.Topics[0].Shards) != 2 {
		t.Fatal(p)
	}
	a, _, _ := c.Shard(4, 2)
	b, _, _ := c.Shard(4, 3)
	if len(a.Records) != 2 || len(b.Records) != 1 || a.Consumers[0].Offset != 1 || b.Consumers[0].Offset != 1 {
		t.Error(a, b)
	}
	call(t, c, 7, produce("z", "late"))
	rounds(t, c, 5, 2, 10)
	if r := last(t, c); r.Err != api.OK || r.Group != 3 || r.Result.Offset != 1 {
		t.Error(r)
	}
	call(t, c, 6, admin(api.PlaceCommand{Kind: api.PlaceMerge, Topic: "t", Group: 2, Other: 3}))
	rounds(t, c, 5, 2, 120)
	call(t, c, 6, admin(api.PlaceCommand{Kind: api.PlaceMove, Topic: "t", Group: 4, From: 3, To: 1}))
	rounds(t, c, 5, 2, 120)
	p, _ = c.Place(1)
	if len(p.Plans) != 0 || len(p.Topics[0].Shards) != 1 || !reflect.DeepEqual(p.Topics[0].Shards[0].Nodes, []int{1, 4, 5}) {
		t.Fatal(p)
	}
	if _, live := c.Status(3, 4); live {
		t.Error("the node that was left has the group still")
	}
	m, _, ok := c.Shard(1, 4)
	if !ok || len(m.Records) != 4 || m.Epoch != 3 {
		t.Error(m, ok)
	}
}

func TestStepsThatMayNotBe(t *testing.T) {
	c := newCluster(t, 2, 1)
	for i, s := range []api.Step{
		{}, {Kind: 12}, {Kind: -1}, {Kind: api.StepTick, Node: 0, N: 1}, {Kind: api.StepTick, Node: 4, N: 1}, {Kind: api.StepTick, Node: 1}, {Kind: api.StepTick, Node: 3}, {Kind: api.StepTick, Node: 3, N: -1},
		{Kind: api.StepDeliver, Node: 1, To: 2}, {Kind: api.StepDeliver, Node: 1, To: 1}, {Kind: api.StepDeliver, Node: 1, To: 9}, {Kind: api.StepDrop, Node: 1, To: 2}, {Kind: api.StepDouble, Node: 1, To: 2}, {Kind: api.StepDouble, Node: 0, To: 2},
		{Kind: api.StepCall, Node: 1}, {Kind: api.StepCall, Node: 4}, {Kind: api.StepCrash, Node: 3}, {Kind: api.StepCrash, Node: 0}, {Kind: api.StepRise, Node: 1}, {Kind: api.StepRise, Node: 3}, {Kind: api.StepTrip, Node: 3}, {Kind: api.StepFull, Node: 0},
	} {
		if e := c.Do(s); e != api.ErrClusterStep {
			t.Error(i, e)
		}
	}
	do(t, c, api.Step{Kind: api.StepCrash, Node: 1})
	if !c.Down(1) || c.Down(2) || c.Down(3) || c.Down(0) {
		t.Error("Down")
	}
	for i, s := range []api.Step{{Kind: api.StepCrash, Node: 1}, {Kind: api.StepTick, Node: 1}} {
		if e := c.Do(s); e != api.ErrClusterStep {
			t.Error(i, e)
		}
	}
	for _, s := range []api.Step{{Kind: api.StepTick, Node: 1, N: 1}, {Kind: api.StepTrip, Node: 1}, {Kind: api.StepFull, Node: 1}, {Kind: api.StepPart, N: -1}, {Kind: api.StepPart, N: 1 << 40}, {Kind: api.StepHeal}} {
		do(t, c, s)
	}
	if _, ok := c.Status(1, 0); ok {
		t.Error("the status of a server that is down")
	}
	if _, ok := c.Place(1); ok {
		t.Error("the placement of a server that is down")
	}
	if _, _, ok := c.Shard(3, 1); ok || c.Bag(9, 1) != 0 || c.Bag(1, 1) != 0 {
		t.Error("a shard of a client, a bag of no link")
	}
	if _, ok := c.Status(3, 0); ok {
		t.Error("the status of a client")
	}
	do(t, c, api.Step{Kind: api.StepRise, Node: 1})
	if p, ok := c.Place(1); !ok || p.NextGroup != 1 {
		t.Error(p, ok)
	}
}

func TestCallsOfClients(t *testing.T) {
	c := newCluster(t, 1, 2)
	if e := c.Do(api.Step{Kind: api.StepCall, Node: 2}); e != api.ErrClientCall {
		t.Error(e)
	}
	value := []byte("v")
	do(t, c, api.Step{Kind: api.StepCall, Node: 2, Call: api.Call{Kind: api.CallProduce, Topic: "t", Key: "k", Value: value}})
	value[0] = 'z'
	if e := c.Do(api.Step{Kind: api.StepCall, Node: 2, Call: produce("k", "w")}); e != api.ErrClientBusy || c.Bag(2, 1) != 1 {
		t.Error(e)
	}
	do(t, c, api.Step{Kind: api.StepCall, Node: 3, Call: api.Call{Kind: api.CallRoute, Topic: "t"}})
	l := c.Dids()
	if len(l) != 2 || l[0].Client != 2 || l[0].Number != 1 || l[0].Producer != 2 || l[0].Seq != 1 || l[0].Began != 2 || l[0].Ended != 0 || string(l[0].Call.Value) != "v" || l[1].Producer != 0 || l[1].Seq != 0 || l[1].Began != 4 || l[1].Number != 1 {
		t.Error(l)
	}
	rounds(t, c, 1, 2, 40)
	l = c.Dids()
	if l[0].Ended == 0 || l[0].Reply.Err != api.ErrClientTime || l[1].Reply.Err != api.ErrClientTime {
		t.Error(l)
	}
	do(t, c, api.Step{Kind: api.StepCall, Node: 2, Call: admin(api.PlaceCommand{Kind: api.PlaceCreate, Topic: "t", Nodes: []int{1}})})
	rounds(t, c, 1, 2, 10)
	if r := last(t, c); r.Err != 0 || r.Number != 1 || c.Dids()[2].Seq != 2 || c.Dids()[2].Number != 2 {
		t.Error(r)
	}
	l = c.Dids()
	l[2].Call.Admin.Nodes[0] = 9
	if c.Dids()[2].Call.Admin.Nodes[0] != 1 {
		t.Error("Dids are copies")
	}
}

func TestStories(t *testing.T) {
	c := newCluster(t, 3, 1)
	l := c.Stories()
	if len(l) != 1 || l[0].Group != 0 || len(l[0].Seed) == 0 || len(l[0].Entries) != 0 {
		t.Error(l)
	}
	rounds(t, c, 3, 1, 20)
	call(t, c, 4, admin(api.PlaceCommand{Kind: api.PlaceCreate, Topic: "t", Nodes: []int{1, 2, 3}}))
	rounds(t, c, 3, 1, 30)
	call(t, c, 4, produce("k", "v"))
	rounds(t, c, 3, 1, 5)
	for n := 1; n <= 3; n++ {
		do(t, c, api.Step{Kind: api.StepCrash, Node: n})
		do(t, c, api.Step{Kind: api.StepRise, Node: n})
	}
	l = c.Stories()
	if len(l) != 2 || l[1].Group != 1 || len(l[0].Entries) != 1 || len(l[1].Entries) != 1 || len(l[1].Seed) == 0 {
		t.Error(l)
	}
	l[1].Seed[0], l[1].Entries[0].Data[0] = 99, 99
	if m := c.Stories(); m[1].Seed[0] == 99 || m[1].Entries[0].Data[0] == 99 {
		t.Error("Stories are copies")
	}
}

// TestDisks: a server whose disk fails is down, and rises with what was kept.
func TestDisks(t *testing.T) {
	for _, kind := range []api.StepKind{api.StepTrip, api.StepFull} {
		c := newCluster(t, 1, 1)
		do(t, c, api.Step{Kind: kind, Node: 1, N: 0})
		do(t, c, api.Step{Kind: api.StepTick, Node: 1, N: 1})
		if !c.Down(1) {
			t.Error(kind, "it is up")
		}
		call(t, c, 2, api.Call{Kind: api.CallRoute, Topic: "t"})
		do(t, c, api.Step{Kind: api.StepDeliver, Node: 2, To: 1})
		if c.Bag(2, 1)+c.Bag(1, 2) != 0 {
			t.Error("what comes to a server that is down is lost")
		}
		do(t, c, api.Step{Kind: api.StepRise, Node: 1})
		do(t, c, api.Step{Kind: api.StepTick, Node: 1, N: 1})
		if s, ok := c.Status(1, 0); !ok || s.Role != api.Leader {
			t.Error(kind, s, ok)
		}
	}
}

func TestParting(t *testing.T) {
	c := newCluster(t, 3, 0)
	do(t, c, api.Step{Kind: api.StepPart, N: 5})
	do(t, c, api.Step{Kind: api.StepTick, Node: 1, N: 1})
	if c.Bag(1, 2) != 0 || c.Bag(1, 3) == 0 {
		t.Error("1 and 3 stand on one side")
	}
	do(t, c, api.Step{Kind: api.StepDouble, Node: 1, To: 3})
	do(t, c, api.Step{Kind: api.StepDrop, Node: 1, To: 3, At: 1})
	n := c.Bag(1, 3)
	do(t, c, api.Step{Kind: api.StepHeal})
	do(t, c, api.Step{Kind: api.StepTick, Node: 1, N: 1})
	if c.Bag(1, 2) == 0 || c.Bag(1, 3) <= n {
		t.Error("all stand on one side")
	}
}

// TestAMachine plays P22.1.
func TestAMachine(t *testing.T) {
	var first []api.Story
	var dids []api.Did
	for range 2 {
		x := newChaos(t, 8)
		for range 200 {
			x.play(20, 3)
		}
		if first == nil {
			first, dids = x.c.Stories(), x.c.Dids()
		}
		if !reflect.DeepEqual(first, x.c.Stories()) || !reflect.DeepEqual(dids, x.c.Dids()) {
			t.Error("played twice, it is another one")
		}
	}
}
