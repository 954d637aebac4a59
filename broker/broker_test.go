package broker_test

import (
	"bytes"
	"fmt"
	"reflect"
	"strings"
	"testing"

	"gazette/api"
	"gazette/broker"
	"gazette/multiraft"
	"gazette/partfsm"
	"gazette/placement"
	"gazette/simdisk"
)

func produce(seq uint64, key string) api.PartCommand {
	return api.PartCommand{Kind: api.PartProduce, Epoch: 1, Producer: 7, Seq: seq, Key: key, Value: []byte("v")}
}

func create(seq uint64, topic string, nodes ...int) api.PlaceCommand {
	return api.PlaceCommand{Kind: api.PlaceCreate, Producer: 7, Seq: seq, Topic: topic, Nodes: nodes}
}

func asked(id uint64, seq uint64) api.Request {
	return api.Request{ID: id, Kind: api.CallProduce, Group: 5, Part: produce(seq, "k")}
}

func TestRequestsThereAndBack(t *testing.T) {
	for i, r := range []api.Request{
		asked(300, 1), {ID: 1, Kind: api.CallFetch, Group: 5, Part: api.PartCommand{Kind: api.PartFetch, Epoch: 2, Offset: 3, Most: 4}}, {Kind: api.CallCommit, Part: api.PartCommand{Kind: api.PartCommit, Epoch: 2, Producer: 3, Seq: 4, Name: "c", Offset: 5}},
		{ID: 2, Kind: api.CallRead, Group: 9, Part: api.PartCommand{Kind: api.PartRead, Name: "c"}}, {ID: 3, Kind: api.CallAdmin, Admin: create(1, "t", 1, 2)}, {ID: 4, Kind: api.CallAdmin, Admin: api.PlaceCommand{Kind: api.PlaceMove, Topic: "t", Group: 3, From: 1, To: 2}}, {ID: 5, Kind: api.CallRoute, Topic: "t"},
	} {
		b := broker.Request(r)
		got, e := broker.ReadRequest(b)
		if e != api.OK || !reflect.DeepEqual(got, r) || !bytes.Equal(broker.Request(got), b) {
			t.Error(i, got, e)
		}
		for _, bad := range [][]byte{append(bytes.Clone(b), 0), b[:len(b)-1], nil} {
			if got, e := broker.ReadRequest(bad); e != api.ErrBrokerWire || !reflect.ValueOf(got).IsZero() {
				t.Error(i, got, e)
			}
		}
	}
	if got := broker.Request(api.Request{ID: 300, Kind: api.CallRoute, Topic: "t", Part: produce(1, "k"), Admin: create(1, "t")}); !bytes.Equal(got, []byte{0xac, 2, 12, 0, 0, 0, 1, 't'}) {
		t.Error("texts that the kind does not ask for are empty", got)
	}
}

func TestRequestsThatAreNone(t *testing.T) {
	wire := func(kind api.CallKind, group uint64, part, admin []byte, topic string) []byte {
		b := []byte{1, byte(kind) * 2, byte(group), byte(len(part))}
		b = append(append(b, part...), byte(len(admin)))
		b = append(append(b, admin...), byte(len(topic)))
		return append(b, topic...)
	}
	part, admin := partfsm.Command(produce(1, "k")), placement.Command(create(1, "t", 1))
	step := placement.Command(api.PlaceCommand{Kind: api.PlaceStep, Plan: 1})
	freeze := partfsm.Command(api.PartCommand{Kind: api.PartFreeze, Epoch: 1, Plan: 1})
	for i, c := range []struct {
		b    []byte
		want api.Errno
	}{
		{wire(api.CallProduce, 5, part, nil, ""), 0}, {wire(0, 0, nil, nil, ""), api.ErrBrokerWire}, {wire(7, 0, nil, nil, ""), api.ErrBrokerWire}, {wire(api.CallProduce, 5, nil, nil, ""), api.ErrBrokerWire}, {wire(api.CallFetch, 5, part, nil, ""), api.ErrBrokerWire},
		{wire(api.CallProduce, 5, part[1:], nil, ""), api.ErrBrokerWire}, {wire(5, 0, freeze, nil, ""), api.ErrBrokerWire}, {wire(api.CallProduce, 5, part, admin, ""), api.ErrBrokerWire}, {wire(api.CallProduce, 5, part, nil, "t"), api.ErrBrokerWire},
		{wire(api.CallAdmin, 0, nil, admin, ""), 0}, {wire(api.CallAdmin, 1, nil, admin, ""), api.ErrBrokerWire}, {wire(api.CallAdmin, 0, nil, nil, ""), api.ErrBrokerWire}, {wire(api.CallAdmin, 0, nil, step, ""), api.ErrBrokerWire}, {wire(api.CallAdmin, 0, part, admin, ""), api.ErrBrokerWire}, {wire(api.CallAdmin, 0, nil, admin, "t"), api.ErrBrokerWire},
		{wire(api.CallRoute, 0, nil, nil, "t"), 0}, {wire(api.CallRoute, 0, nil, nil, ""), api.ErrBrokerWire}, {wire(api.CallRoute, 1, nil, nil, "t"), api.ErrBrokerWire}, {wire(api.CallRoute, 0, nil, admin, "t"), api.ErrBrokerWire}, {wire(api.CallRoute, 0, part, nil, "t"), api.ErrBrokerWire}, {wire(api.CallProduce, 0, part, nil, ""), 0},
	} {
		if r, e := broker.ReadRequest(c.b); e != c.want || e != 0 && !reflect.ValueOf(r).IsZero() {
			t.Error(i, r, e)
		}
	}
}

func TestReplies(t *testing.T) {
	shard := api.Shard{Group: 4, Range: api.Range{Lo: "a"}, Epoch: 3, Nodes: []int{1, 7}, Past: []int{2}, Plan: 9}
	full := api.Reply{ID: 300, Err: 9, Leader: 2, Number: 4, Group: 5, Index: 6, Term: 7, Shards: []api.Shard{shard, shard}, Result: api.PartResult{Err: 9, Offset: 1, Old: true, Records: []api.Record{{Key: "k", Value: []byte("v"), Producer: 1, Seq: 2}}}}
	for i, r := range []api.Reply{{}, full, {Leader: -1}} {
		b := broker.Reply(r)
		got, e := broker.ReadReply(b)
		if e != 0 || !reflect.DeepEqual(got, r) {
			t.Error(i, got, e)
		}
		for _, bad := range [][]byte{append(bytes.Clone(b), 0), b[:len(b)-1], nil} {
			if got, e := broker.ReadReply(bad); e != api.ErrBrokerWire || !reflect.ValueOf(got).IsZero() {
				t.Error(i, got, e)
			}
		}
	}
	if b := broker.Reply(api.Reply{}); !bytes.Equal(b, []byte{0, 0, 0, 4, 0, 0, 0, 0, 0, 0, 0, 0, 0}) {
		t.Error(b)
	}
	for i, do := range []func(s *api.Shard){
		func(s *api.Shard) { s.Range = api.Range{Lo: "b", Hi: "a"} }, func(s *api.Shard) { s.Range.Lo = strings.Repeat("k", 33) }, func(s *api.Shard) { s.Nodes = make([]int, 8) }, func(s *api.Shard) { s.Past = make([]int, 8) },
		func(s *api.Shard) { s.Nodes = []int{0} }, func(s *api.Shard) { s.Nodes = []int{8} }, func(s *api.Shard) { s.Past = []int{-1} },
	} {
		s := shard
		do(&s)
		if _, e := broker.ReadReply(broker.Reply(api.Reply{Shards: []api.Shard{s}})); e != api.ErrBrokerWire {
			t.Error(i, e)
		}
	}
	many := api.Reply{Shards: make([]api.Shard, api.MaxShards+1)}
	if _, e := broker.ReadReply(broker.Reply(many)); e != api.ErrBrokerWire {
		t.Error(e)
	}
	if _, e := broker.ReadReply([]byte{0, 0, 0, 3, 0, 0, 0, 0, 0, 0, 0, 0}); e != api.ErrBrokerWire {
		t.Error("a result that is none", e)
	}
}

func TestNew(t *testing.T) {
	for i, c := range []struct {
		id      int
		servers []int
		want    api.Errno
	}{{1, []int{1, 2}, 0}, {3, []int{1, 2}, api.ErrArg}, {1, nil, api.ErrArg}, {1, []int{1, 1}, api.ErrArg}, {1, []int{2, 1, 2}, api.ErrArg}, {1, []int{1, 8}, api.ErrArg}, {0, []int{0, 1}, api.ErrArg}, {2, []int{7, 2}, 0}} {
		if b, e := broker.New(c.id, c.servers); e != c.want || (b == nil) != (e != 0) {
			t.Error(i, e)
		}
	}
}

func newBroker(t *testing.T, servers ...int) *broker.Broker {
	t.Helper()
	b, e := broker.New(1, servers)
	if e != api.OK {
		t.Fatal(e)
	}
	return b
}

// alone is a host of the node 1 that leads the groups 0 and 5, all by itself.
func alone(t *testing.T) *multiraft.Host {
	t.Helper()
	d, _ := simdisk.New(api.MaxRoom)
	h, e := multiraft.New(1, d)
	p, _ := partfsm.New(api.Range{}, 1)
	if e != 0 || h.Create(0, api.Conf{Voters: []int{1}}, placement.Bytes(placement.New())) != 0 || h.Create(5, api.Conf{Voters: []int{1}}, partfsm.Bytes(p)) != 0 || h.Tick(1) != 0 {
		t.Fatal(e)
	}
	return h
}

func request(r api.Request) api.Packet {
	return api.Packet{From: 4, To: 1, Kind: api.PacketRequest, Data: broker.Request(r)}
}

// replies are what packets to the client 4 say.
func replies(t *testing.T, l []api.Packet) string {
	t.Helper()
	var s []string
	for _, p := range l {
		r, e := broker.ReadReply(p.Data)
		if e != 0 || p.From != 1 || p.To != 4 || p.Kind != api.PacketReply {
			t.Fatal(p, e)
		}
		x := fmt.Sprintf("%d: e%d", r.ID, r.Err)
		if r.Leader != 0 {
			x += fmt.Sprintf(" leader %d", r.Leader)
		}
		if r.Number != 0 || len(r.Shards) > 0 {
			x += fmt.Sprintf(" n%d shards %d", r.Number, len(r.Shards))
		}
		if r.Index != 0 {
			x += fmt.Sprintf(" at %d %d/%d", r.Group, r.Index, r.Term)
		}
		if r.Result.Old || r.Result.Offset != 0 {
			x += fmt.Sprintf(" offset %d %v", r.Result.Offset, r.Result.Old)
		}
		s = append(s, x)
	}
	return strings.Join(s, "; ")
}

func ask(t *testing.T, b *broker.Broker, h *multiraft.Host, r api.Request, want string) {
	t.Helper()
	l, e := b.Receive(h, request(r))
	if got := replies(t, l); e != 0 || got != want {
		t.Errorf("%q %v, not %q", got, e, want)
	}
}

// told plays a round of the host and tells the broker what was committed.
func told(t *testing.T, b *broker.Broker, h *multiraft.Host, want string) {
	t.Helper()
	_, l, e := h.Round()
	if got := replies(t, b.Told(l)); e != 0 || got != want {
		t.Errorf("%q %v, not %q", got, e, want)
	}
}

func TestReceiveRefuses(t *testing.T) {
	b, h := newBroker(t, 1, 2), alone(t)
	good := request(asked(1, 1))
	for i, c := range []struct {
		do   func(p *api.Packet)
		want api.Errno
	}{
		{func(p *api.Packet) { p.To = 2 }, api.ErrArg}, {func(p *api.Packet) { p.From = 1 }, api.ErrArg}, {func(p *api.Packet) { p.From = 0 }, api.ErrArg}, {func(p *api.Packet) { p.From = 8 }, api.ErrArg}, {func(p *api.Packet) { p.Kind = api.PacketRaft }, api.ErrArg}, {func(p *api.Packet) { p.Kind = api.PacketReply }, api.ErrArg}, {func(p *api.Packet) { p.Kind = 8 }, api.ErrArg},
		{func(p *api.Packet) { p.Data = nil }, api.ErrBrokerWire}, {func(p *api.Packet) { p.Kind, p.Data = api.PacketReport, []byte{1} }, api.ErrBrokerWire}, {func(p *api.Packet) { p.Kind, p.Data = api.PacketOrder, nil }, api.ErrBrokerWire}, {func(p *api.Packet) { p.Kind, p.Data = api.PacketState, []byte{0, 0} }, api.ErrBrokerWire},
	} {
		p := good
		c.do(&p)
		if l, e := b.Receive(h, p); e != c.want || len(l) != 0 {
			t.Error(i, l, e)
		}
	}
	if _, e := b.Receive(nil, good); e != api.ErrArg {
		t.Error(e)
	}
	if l := b.Tick(nil); len(l) != 0 {
		t.Error(l)
	}
}

func TestRequests(t *testing.T) {
	b, h := newBroker(t, 1, 2), alone(t)
	route := api.Request{ID: 3, Kind: api.CallRoute, Topic: "t"}
	admin := api.Request{ID: 4, Kind: api.CallAdmin, Admin: create(1, "t", 1)}
	ask(t, b, h, route, "3: e182")
	ask(t, b, h, asked(1, 1), "1: e202")
	ask(t, b, h, admin, "4: e202")
	told(t, b, h, "")
	ask(t, b, h, route, "3: e182")
	ask(t, b, h, admin, "")
	ask(t, b, h, asked(5, 1), "")
	ask(t, b, h, asked(6, 1), "")
	ask(t, b, h, asked(7, 2), "")
	zero := asked(8, 3)
	zero.Group = 0
	ask(t, b, h, zero, "8: e202")
	zero.Group = 6
	ask(t, b, h, zero, "8: e202")
	told(t, b, h, "4: e0 n1 shards 0 at 0 3/2; 5: e0 at 5 3/2; 6: e0 at 5 4/2 offset 0 true; 7: e0 at 5 5/2 offset 1 false")
	told(t, b, h, "")
	ask(t, b, h, route, "3: e0 n0 shards 1")
	admin.Admin.Seq = 2
	ask(t, b, h, admin, "")
	told(t, b, h, "4: e182 at 0 4/2")
	p, ok := b.Place()
	s, index, known := b.Shard(5)
	if !ok || len(p.Topics) != 1 || !known || index != 5 || len(s.Records) != 2 {
		t.Error(p, s, index)
	}
	p.Topics[0].Shards[0].Nodes[0], s.Records[0].Value[0] = 7, 'z'
	p, _ = b.Place()
	s, _, _ = b.Shard(5)
	if p.Topics[0].Shards[0].Nodes[0] != 1 || s.Records[0].Value[0] != 'v' {
		t.Error("a state is copied")
	}
	if _, _, ok := b.Shard(0); ok {
		t.Error("the placement is no shard")
	}
}

func TestNotTheLeader(t *testing.T) {
	d, _ := simdisk.New(api.MaxRoom)
	h, _ := multiraft.New(1, d)
	p, _ := partfsm.New(api.Range{}, 1)
	h.Create(5, api.Conf{Voters: []int{1, 2}}, partfsm.Bytes(p))
	b := newBroker(t, 1, 2)
	told(t, b, h, "")
	ask(t, b, h, asked(1, 1), "1: e201")
	if e := h.Receive(api.Packet{From: 2, To: 1, Kind: api.PacketBeat, Data: []byte{1, 5, 0, 3, 1, 1, 1}}); e != 0 {
		t.Fatal(e)
	}
	ask(t, b, h, asked(1, 1), "1: e201 leader 2")
}

func TestTold(t *testing.T) {
	b, h := newBroker(t, 1), alone(t)
	told(t, b, h, "")
	for i := range uint64(4) {
		ask(t, b, h, asked(i+1, i+1), "")
	}
	entry := func(index, term uint64, data []byte) []api.Applied {
		return []api.Applied{{Group: 5, Index: index, Term: term, Data: data}}
	}
	check := func(l []api.Applied, want string) {
		t.Helper()
		if got := replies(t, b.Told(l)); got != want {
			t.Errorf("%q, not %q", got, want)
		}
	}
	check([]api.Applied{{Group: 6, Index: 9, Term: 2, Data: []byte("x")}}, "")
	check(entry(2, 2, nil), "")
	check(entry(4, 2, partfsm.Command(produce(9, "k"))), "1: e203; 2: e0 at 5 4/2")
	check(entry(5, 3, partfsm.Command(produce(3, "k"))), "3: e203")
	p, _, _ := b.Shard(5)
	check([]api.Applied{{Group: 5, Index: 9, Term: 3, Snapshot: true, Data: partfsm.Bytes(p)}}, "4: e203")
	if q, index, ok := b.Shard(5); !ok || index != 9 || len(q.Records) != 1 {
		t.Error(q, index, ok)
	}
	check([]api.Applied{{Group: 5, Index: 10, Term: 3, Snapshot: true, Data: []byte("none")}}, "")
	if _, index, ok := b.Shard(5); ok || index != 0 {
		t.Error("a snapshot that is none")
	}
	check(entry(11, 3, partfsm.Command(produce(9, "k"))), "")
	check([]api.Applied{{Group: 0, Index: 10, Term: 3, Snapshot: true, Data: []byte("none")}}, "")
	if _, ok := b.Place(); ok {
		t.Error("a placement that is none")
	}
}

func TestReportsGoOut(t *testing.T) {
	b, h := newBroker(t, 1, 3, 2), alone(t)
	for tick := range 10 {
		l := b.Tick(h)
		want := 0
		if tick%api.ReportLast == 0 {
			want = 2
		}
		if len(l) != want {
			t.Error(tick, l)
		}
		for i, p := range l {
			if p.From != 1 || p.To != 2+i || p.Kind != api.PacketReport {
				t.Error(p)
			}
		}
	}
}

func TestCompaction(t *testing.T) {
	b, h := newBroker(t, 1), alone(t)
	told(t, b, h, "")
	for i := range uint64(24) {
		h.Propose(5, partfsm.Command(produce(i+1, "k")))
		h.Round()
	}
	_, l, _ := h.Round()
	b.Told(l)
	b.Tick(h)
	if s, _ := h.Status(5); s.Base != 1 {
		t.Error("where nothing was told there is nothing to compact", s)
	}
	b, h = newBroker(t, 1), alone(t)
	told(t, b, h, "")
	for i := range uint64(23) {
		h.Propose(5, partfsm.Command(produce(i+1, "k")))
	}
	_, l, _ = h.Round()
	b.Told(l)
	b.Tick(h)
	if s, _ := h.Status(5); s.Base != 1 || s.Last != 25 {
		t.Error("24 entries are not more than 24", s)
	}
	h.Propose(5, partfsm.Command(produce(24, "k")))
	_, l, _ = h.Round()
	b.Told(l)
	b.Tick(h)
	if s, _ := h.Status(5); s.Base != 26 || s.Last != 26 {
		t.Error(s)
	}
	_, l, _ = h.Round()
	if b.Told(l); len(l) != 0 {
		t.Error(l)
	}
}

// TestGroupsThatHaveEnded: a group whose number was given, and that nothing has any more, is destroyed; whoever waits for it waits in vain.
func TestGroupsThatHaveEnded(t *testing.T) {
	for next, gone := range map[uint64]bool{5: false, 6: true} {
		b, h := newBroker(t, 1), alone(t)
		told(t, b, h, "")
		ask(t, b, h, asked(3, 1), "")
		p := placement.New()
		p.NextGroup = next
		b.Told([]api.Applied{{Group: 0, Index: 2, Term: 2, Snapshot: true, Data: placement.Bytes(p)}})
		want := ""
		if gone {
			want = "3: e203"
		}
		if got := replies(t, b.Tick(h)); got != want {
			t.Error(next, got)
		}
		_, live := h.Status(5)
		_, _, known := b.Shard(5)
		if live == gone || known == gone {
			t.Error(next, live, known)
		}
	}
}
