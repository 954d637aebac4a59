package client_test

import (
	"fmt"
	"math/rand"
	"reflect"
	"strings"
	"testing"

	"gazette/api"
	"gazette/client"
)

func newClient(t *testing.T) api.Client {
	t.Helper()
	c, e := client.New(4, []int{1, 2, 3}, 4)
	if e != api.OK {
		t.Fatal(e)
	}
	return c
}

func show(out api.ClientOutput) string {
	switch {
	case out.Done:
		return fmt.Sprintf("done e%d n%d", out.Reply.Err, out.Reply.Number)
	case !out.Send:
		return ""
	}
	r := out.Request
	s := fmt.Sprintf("%d to %d:", r.ID, out.To)
	switch r.Kind {
	case api.CallRoute:
		return s + fmt.Sprintf(" route %s of %d", r.Topic, r.Group)
	case api.CallAdmin:
		return s + fmt.Sprintf(" admin %d %s by %d %d of %d", r.Admin.Kind, r.Admin.Topic, r.Admin.Producer, r.Admin.Seq, r.Group)
	}
	p := r.Part
	return s + fmt.Sprintf(" %d/%d of %d e%d by %d %d %s=%s %d %d %s", r.Kind, p.Kind, r.Group, p.Epoch, p.Producer, p.Seq, p.Key, p.Value, p.Offset, p.Most, p.Name)
}

// player plays inputs on a client, one behind the other.
type player struct {
	t *testing.T
	c api.Client
}

func (x *player) in(in api.ClientInput, want string) {
	x.t.Helper()
	before := fmt.Sprint(x.c)
	next, out, e := client.Step(x.c, in)
	if e != api.OK || show(out) != want {
		x.t.Errorf("%q %v, not %q", show(out), e, want)
	}
	if fmt.Sprint(x.c) != before {
		x.t.Error("what was handed in is changed")
	}
	x.c = next
}

func (x *player) call(c api.Call, want string) {
	x.t.Helper()
	x.in(api.ClientInput{Kind: api.ClientCall, Call: c}, want)
}

func (x *player) reply(r api.Reply, want string) {
	x.t.Helper()
	r.ID = x.c.Number
	x.in(api.ClientInput{Kind: api.ClientReply, Reply: r}, want)
}

func (x *player) tick(want string) {
	x.t.Helper()
	x.in(api.ClientInput{Kind: api.ClientTick}, want)
}

// ticks are so many that nothing comes of, and one of which something does.
func (x *player) ticks(n int, want string) {
	x.t.Helper()
	for range n - 1 {
		x.tick("")
	}
	x.tick(want)
}

func (x *player) refused(in api.ClientInput, want api.Errno) {
	x.t.Helper()
	next, out, e := client.Step(x.c, in)
	if e != want || !reflect.DeepEqual(next, x.c) || !reflect.ValueOf(out).IsZero() {
		x.t.Error(e, "not", want)
	}
}

func shard(group uint64, lo, hi string, epoch uint64) api.Shard {
	return api.Shard{Group: group, Range: api.Range{Lo: lo, Hi: hi}, Epoch: epoch, Nodes: []int{1, 2, 3}}
}

func route(l ...api.Shard) api.Reply { return api.Reply{Shards: l} }

func failed(e api.Errno) api.Reply { return api.Reply{Err: e} }

var (
	produce = api.Call{Kind: api.CallProduce, Topic: "t", Key: "k", Value: []byte("v")}
	admin   = api.Call{Kind: api.CallAdmin, Admin: api.PlaceCommand{Kind: api.PlaceCreate, Topic: "t", Nodes: []int{1}}}
	routes  = api.Call{Kind: api.CallRoute, Topic: "t"}
)

func TestNew(t *testing.T) {
	for i, c := range []struct {
		id       int
		servers  []int
		producer uint64
		want     api.Errno
	}{
		{4, []int{1, 2, 3}, 4, 0}, {7, []int{1}, 1, 0}, {0, []int{1}, 1, api.ErrArg}, {8, []int{1}, 1, api.ErrArg}, {4, nil, 1, api.ErrArg}, {4, []int{0}, 1, api.ErrArg}, {4, []int{8}, 1, api.ErrArg}, {4, []int{1, 4}, 1, api.ErrArg}, {4, []int{1, 2, 1}, 1, api.ErrArg}, {4, []int{1}, 0, api.ErrArg},
	} {
		x, e := client.New(c.id, c.servers, c.producer)
		want := api.Client{ID: c.id, Servers: c.servers, Producer: c.producer}
		if e != c.want || e == 0 && !reflect.DeepEqual(x, want) || e != 0 && !reflect.ValueOf(x).IsZero() {
			t.Error(i, x, e)
		}
	}
}

func TestExamples(t *testing.T) {
	x := &player{t, newClient(t)}
	x.call(produce, "1 to 1: route t of 0")
	if x.c.Number != 1 || x.c.Seq != 1 || !x.c.Route || !x.c.Busy {
		t.Error(x.c)
	}
	x.reply(route(shard(7, "", "", 1)), "2 to 1: 1/1 of 7 e1 by 4 1 k=v 0 0 ")
	x.reply(api.Reply{Err: api.ErrBrokerLeader, Leader: 3}, "3 to 3: 1/1 of 7 e1 by 4 1 k=v 0 0 ")
	x.in(api.ClientInput{Kind: api.ClientReply, Reply: api.Reply{ID: 2, Err: api.ErrBrokerLeader, Leader: 3}}, "")
	x.ticks(12, "4 to 2: 1/1 of 7 e1 by 4 1 k=v 0 0 ")
	if len(x.c.Leaders) != 0 || x.c.At != 1 || x.c.Tries != 4 || x.c.Group != 7 || x.c.Route {
		t.Error(x.c)
	}
}

func TestCalls(t *testing.T) {
	x := &player{t, newClient(t)}
	x.refused(api.ClientInput{}, api.ErrArg)
	x.refused(api.ClientInput{Kind: 4}, api.ErrArg)
	for _, c := range []api.Call{{}, {Kind: 7, Topic: "t"}, {Kind: api.CallProduce}, {Kind: api.CallRoute, Topic: "T"}, {Kind: api.CallAdmin}, {Kind: api.CallAdmin, Admin: api.PlaceCommand{Kind: api.PlaceStep}}, {Kind: api.CallRead, Topic: strings.Repeat("t", 33)}} {
		x.refused(api.ClientInput{Kind: api.ClientCall, Call: c}, api.ErrClientCall)
	}
	x.tick("")
	x.reply(route(), "")
	x.call(routes, "1 to 1: route t of 0")
	x.refused(api.ClientInput{Kind: api.ClientCall}, api.ErrClientBusy)
	if x.c.Seq != 0 || x.c.Route {
		t.Error(x.c)
	}
	x.reply(route(shard(7, "", "m", 2), shard(8, "m", "", 3)), "done e0 n0")
	if len(x.c.Topics) != 1 || len(x.c.Topics[0].Shards) != 2 || x.c.Busy || x.c.Tries != 0 || x.c.Call.Kind != 0 {
		t.Error(x.c)
	}
	x.call(api.Call{Kind: api.CallFetch, Topic: "t", Key: "m", Offset: 3, Most: 4}, "2 to 1: 2/2 of 8 e3 by 0 0 = 3 4 ")
	x.reply(api.Reply{Number: 5}, "done e0 n5")
	x.call(api.Call{Kind: api.CallCommit, Topic: "t", Key: "a", Name: "c", Offset: 3, Most: 9}, "3 to 1: 3/3 of 7 e2 by 4 1 = 3 0 c")
	x.reply(failed(api.ErrRecordsOffset), "done e141 n0")
	x.call(api.Call{Kind: api.CallRead, Topic: "t", Key: "a", Name: "c", Offset: 3}, "4 to 1: 4/4 of 7 e2 by 0 0 = 0 0 c")
	x.reply(failed(api.OK), "done e0 n0")
	x.call(admin, "5 to 1: admin 1 t by 4 2 of 0")
	x.reply(api.Reply{Number: 9}, "done e0 n9")
	x.call(produce, "6 to 1: 1/1 of 7 e2 by 4 3 k=v 0 0 ")
}

func TestRoutes(t *testing.T) {
	x := &player{t, newClient(t)}
	x.call(produce, "1 to 1: route t of 0")
	x.reply(route(shard(7, "", "b", 1)), "")
	if !x.c.Again || x.c.At != 1 || len(x.c.Topics) != 1 {
		t.Error(x.c)
	}
	x.reply(route(shard(7, "", "", 1)), "")
	x.tick("2 to 2: route t of 0")
	x.reply(route(shard(8, "", "b", 1), shard(9, "b", "", 4)), "3 to 2: 1/1 of 9 e4 by 4 1 k=v 0 0 ")
	if len(x.c.Topics) != 1 || len(x.c.Topics[0].Shards) != 2 {
		t.Error(x.c.Topics)
	}
	for i, e := range []api.Errno{api.ErrBrokerGroup, api.ErrPartEpoch, api.ErrPartFrozen, api.ErrPartKey, api.ErrPlaceTopic} {
		x.reply(failed(e), "")
		if len(x.c.Topics) != 0 || !x.c.Again {
			t.Error(i, x.c)
		}
		to := []int{3, 1, 2}[i%3]
		x.tick(fmt.Sprintf("%d to %d: route t of 0", 4+2*i, to))
		x.reply(route(shard(9, "", "", 5)), fmt.Sprintf("%d to %d: 1/1 of 9 e5 by 4 1 k=v 0 0 ", 5+2*i, to))
	}
}

func TestLeaders(t *testing.T) {
	x := &player{t, newClient(t)}
	x.call(produce, "1 to 1: route t of 0")
	x.reply(route(shard(7, "", "", 1)), "2 to 1: 1/1 of 7 e1 by 4 1 k=v 0 0 ")
	x.reply(api.Reply{Err: api.ErrBrokerLeader, Leader: 3}, "3 to 3: 1/1 of 7 e1 by 4 1 k=v 0 0 ")
	x.reply(api.Reply{Err: api.ErrBrokerLeader, Leader: 2}, "4 to 2: 1/1 of 7 e1 by 4 1 k=v 0 0 ")
	if !reflect.DeepEqual(x.c.Leaders, []api.Site{{Group: 7, Node: 2}}) {
		t.Error(x.c.Leaders)
	}
	x.reply(failed(api.ErrBrokerLeader), "")
	if len(x.c.Leaders) != 0 || !x.c.Again || x.c.At != 1 {
		t.Error(x.c)
	}
	x.tick("5 to 2: 1/1 of 7 e1 by 4 1 k=v 0 0 ")
	x.reply(api.Reply{Err: api.ErrBrokerLeader, Leader: 5}, "")
	x.tick("6 to 3: 1/1 of 7 e1 by 4 1 k=v 0 0 ")
	x.reply(failed(api.ErrBrokerLost), "")
	if x.c.At != 2 || !x.c.Again {
		t.Error(x.c)
	}
	x.tick("7 to 3: 1/1 of 7 e1 by 4 1 k=v 0 0 ")
	x.reply(api.Reply{Err: api.ErrBrokerLeader, Leader: 1}, "8 to 1: 1/1 of 7 e1 by 4 1 k=v 0 0 ")
	x.reply(failed(api.OK), "done e0 n0")
	x.call(produce, "9 to 1: 1/1 of 7 e1 by 4 2 k=v 0 0 ")
}

func TestAdmin(t *testing.T) {
	x := &player{t, newClient(t)}
	x.call(admin, "1 to 1: admin 1 t by 4 1 of 0")
	x.reply(failed(api.ErrBrokerGroup), "")
	x.tick("2 to 2: admin 1 t by 4 1 of 0")
	x.reply(api.Reply{Err: api.ErrBrokerLeader, Leader: 3}, "3 to 3: admin 1 t by 4 1 of 0")
	x.ticks(12, "done e213 n0")
	if x.c.At != 2 || len(x.c.Leaders) != 0 {
		t.Error(x.c)
	}
	x.call(admin, "4 to 3: admin 1 t by 4 2 of 0")
	x.reply(api.Reply{Err: api.ErrBrokerLost, Number: 3}, "done e213 n0")
	for i, e := range []api.Errno{api.ErrPlaceTopic, api.ErrPartEpoch, api.ErrPartFrozen, api.ErrPartKey, api.ErrPlaceOld, api.ErrTooMany} {
		x.call(admin, fmt.Sprintf("%d to 3: admin 1 t by 4 %d of 0", 5+i, 3+i))
		x.reply(failed(e), fmt.Sprintf("done e%d n0", e))
	}
}

func TestTries(t *testing.T) {
	x := &player{t, newClient(t)}
	x.call(routes, "1 to 1: route t of 0")
	for i := 2; i <= api.MaxTries; i++ {
		x.reply(failed(api.ErrPlaceTopic), "")
		x.tick(fmt.Sprintf("%d to %d: route t of 0", i, 1+(i-1)%3))
	}
	x.reply(failed(api.ErrPlaceTopic), "")
	x.tick("done e213 n0")
	if x.c.Busy || x.c.Tries != 0 || x.c.Number != api.MaxTries {
		t.Error(x.c)
	}
}

func TestMemory(t *testing.T) {
	c := newClient(t)
	call := api.Call{Kind: api.CallProduce, Topic: "t", Key: "k", Value: []byte("v")}
	c, _, _ = client.Step(c, api.ClientInput{Kind: api.ClientCall, Call: call})
	call.Value[0] = 'z'
	r := api.Reply{ID: 1, Shards: []api.Shard{shard(7, "", "", 1)}}
	d, out, _ := client.Step(c, api.ClientInput{Kind: api.ClientReply, Reply: r})
	r.Shards[0].Nodes[0], d.Servers[0] = 7, 7
	if d.Topics[0].Shards[0].Nodes[0] != 1 || c.Servers[0] != 1 || string(out.Request.Part.Value) != "v" {
		t.Error(d, out)
	}
	out.Request.Part.Value[0] = 'q'
	if string(d.Call.Value) != "v" {
		t.Error("the request is the call's own memory")
	}
}

// TestPromises plays P21.2 and P21.3: whatever replies come, a number goes out with one change alone, and calls end in time.
func TestPromises(t *testing.T) {
	random := rand.New(rand.NewSource(1))
	errs := []api.Errno{0, 0, api.ErrBrokerLeader, api.ErrBrokerGroup, api.ErrBrokerLost, api.ErrPartEpoch, api.ErrPartFrozen, api.ErrPlaceTopic, 9}
	for range 300 {
		c := newClient(t)
		went := map[uint64]string{}
		calls, requests, ticks := 0, 0, 0
		for range 600 {
			in := api.ClientInput{Kind: api.ClientTick}
			switch n := random.Intn(10); {
			case n < 2:
				in = api.ClientInput{Kind: api.ClientCall, Call: []api.Call{produce, admin, routes, {Kind: api.CallCommit, Topic: "t", Key: string(rune('a' + random.Intn(26))), Name: "c"}}[random.Intn(4)]}
			case n < 5:
				in = api.ClientInput{Kind: api.ClientReply, Reply: api.Reply{ID: c.Number - uint64(random.Intn(5)/4), Err: errs[random.Intn(len(errs))], Leader: random.Intn(5), Shards: []api.Shard{shard(uint64(random.Intn(5)), "", string(rune('a'+random.Intn(40))), 1)}}}
			}
			seq := c.Seq
			next, out, e := client.Step(c, in)
			if e == 0 && in.Kind == api.ClientCall {
				requests, ticks = 0, 0
				calls++
				if next.Seq > seq+1 {
					t.Fatal("numbers are left out")
				}
			}
			if in.Kind == api.ClientTick && c.Busy {
				ticks++
			}
			if out.Send {
				requests++
				n, what := out.Request.Part.Seq+out.Request.Admin.Seq, fmt.Sprint(calls)
				if n > 0 && (went[n] != "" && went[n] != what || n != next.Seq) {
					t.Fatal("a number goes out with another change", n)
				} else if n > 0 {
					went[n] = what
				}
			}
			if requests > api.MaxTries || ticks > api.MaxTries*(api.Patience+1)+1 {
				t.Fatal("a call does not end", requests, ticks)
			}
			c = next
		}
	}
}

// TestAnyClient plays P1.
func TestAnyClient(t *testing.T) {
	random := rand.New(rand.NewSource(2))
	for range 20000 {
		c := api.Client{At: []int{0, 5, -7, 1<<63 - 1, -1 << 63}[random.Intn(5)], Busy: true, Tries: random.Intn(30) - 2, Again: random.Intn(2) == 0, Waited: random.Intn(20), Call: []api.Call{produce, admin, routes, {Kind: 9}}[random.Intn(4)], Route: random.Intn(2) == 0}
		if random.Intn(2) == 0 {
			c.Servers = []int{9, -1}
		}
		client.Step(c, api.ClientInput{Kind: api.ClientKind(random.Intn(5)), Reply: failed(api.Errno(random.Intn(220))), Call: produce})
	}
}
