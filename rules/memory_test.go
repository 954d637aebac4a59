package rules_test

import (
	"fmt"
	"math/rand"
	"reflect"
	"testing"

	"gazette/api"
	"gazette/beats"
	"gazette/client"
	"gazette/codec"
	"gazette/lineage"
	"gazette/partfsm"
	"gazette/placement"
	"gazette/plans"
	"gazette/producers"
	"gazette/raftconf"
	"gazette/raftcore"
	"gazette/raftlog"
	"gazette/raftsnap"
	"gazette/records"
)

// span is where a list stands, its spare room too.
type span struct {
	from, to uintptr
	name     string
}

func spans(v reflect.Value, name string, l []span) []span {
	switch v.Kind() {
	case reflect.Struct:
		for i := range v.NumField() {
			l = spans(v.Field(i), name+"."+v.Type().Field(i).Name, l)
		}
	case reflect.Slice:
		if v.Cap() > 0 {
			l = append(l, span{v.Pointer(), v.Pointer() + uintptr(v.Cap())*v.Type().Elem().Size(), name})
		}
		for i := range v.Len() {
			l = spans(v.Index(i), fmt.Sprintf("%s[%d]", name, i), l)
		}
	}
	return l
}

// fresh calls a function, and holds its answer against P3: no list of it shares memory with an argument, or with another one.
func fresh(t *testing.T, f any, args ...any) []reflect.Value {
	t.Helper()
	var taken []span
	var in []reflect.Value
	for i, a := range args {
		v := reflect.ValueOf(a).Convert(reflect.TypeOf(f).In(i))
		in = append(in, v)
		taken = spans(v, fmt.Sprintf("argument %d", i), taken)
	}
	out := reflect.ValueOf(f).Call(in)
	for i, v := range out {
		for _, a := range spans(v, fmt.Sprintf("answer %d", i), nil) {
			for _, b := range taken {
				if a.from < b.to && b.from < a.to {
					t.Fatalf("%s shares with %s", a.name, b.name)
				}
			}
			taken = append(taken, a)
		}
	}
	return out
}

func TestGroupsAnswerNewMemory(t *testing.T) {
	random := rand.New(rand.NewSource(1))
	v := api.View{Hard: api.Hard{Term: 1, Commit: 1}, Log: api.Log{Base: api.Snap{Index: 1, Term: 1, Conf: api.Conf{Voters: []int{1, 2, 3}}, Data: make([]byte, 100)}}}
	for range 20 {
		s := fresh(t, raftcore.New, 1, v)[0].Interface().(api.Raft)
		inputs := []api.Input{{Kind: api.InTick, Timeout: 1}, {Kind: api.InMsg, Msg: api.Msg{Kind: api.MsgPreVoted, From: 2, To: 1, Term: 2}}, {Kind: api.InMsg, Msg: api.Msg{Kind: api.MsgVoted, From: 2, To: 1, Term: 2}}}
		for range 15 {
			ack := api.Msg{Kind: api.MsgAppended, From: 2, To: 1, Term: 2, Index: uint64(2 + random.Intn(5)), Reject: random.Intn(3) == 0}
			inputs = append(inputs, api.Input{Kind: api.InPropose, Data: []byte("abc")}, api.Input{Kind: api.InMsg, Msg: ack}, api.Input{Kind: api.InChange, Change: api.Change{Kind: api.AddLearner, Node: 4 + random.Intn(3)}}, api.Input{Kind: api.InTick, Timeout: 9})
		}
		for _, in := range inputs {
			answer := fresh(t, raftcore.Step, s, in)
			s = answer[0].Interface().(api.Raft)
			fresh(t, raftcore.Status, s)
			lookAtLog(t, s.Log)
			lookAtMessages(t, v, answer[1].Interface().(api.Output).Msgs)
		}
	}
}

func lookAtLog(t *testing.T, l api.Log) {
	t.Helper()
	last, term := raftlog.Last(l)
	more := []api.Entry{{Index: last + 1, Term: term, Kind: api.EntryData, Data: []byte("q")}, {Index: last + 2, Term: term, Kind: api.EntryChange, Conf: api.Conf{Voters: []int{1}}}}
	fresh(t, raftlog.Slice, l, l.Base.Index+1, 5)
	fresh(t, raftlog.Conf, l)
	fresh(t, raftlog.Merge, l, uint64(0), last, term, more)
	fresh(t, raftlog.Compact, l, last, []byte("data"))
}

func lookAtMessages(t *testing.T, v api.View, l []api.Msg) {
	t.Helper()
	follower, _ := raftcore.New(2, v)
	var wires []beats.Wire
	for _, m := range l {
		wires = append(wires, beats.Wire{Group: 1, Msg: m})
		if m.To == 2 {
			fresh(t, raftcore.Step, follower, api.Input{Kind: api.InMsg, Msg: m})
		}
	}
	for _, p := range fresh(t, beats.Pack, 1, wires)[0].Interface().([]api.Packet) {
		fresh(t, beats.Open, p)
	}
}

func TestSmallThingsAnswerNewMemory(t *testing.T) {
	s := api.Snap{Index: 1, Term: 1, Conf: api.Conf{Voters: []int{1, 2, 3}}, Data: make([]byte, 100)}
	m := fresh(t, raftsnap.Piece, s, uint64(0))[0].Interface().(api.Msg)
	p := fresh(t, raftsnap.Take, api.Coming{Index: 1, Term: 1, Data: make([]byte, 0, 300)}, m)[0].Interface().(api.Coming)
	fresh(t, raftsnap.Whole, p, s.Conf)
	c := api.Conf{Voters: append(make([]int, 0, 9), 1, 2), Learners: append(make([]int, 0, 9), 3, 4)}
	for kind := api.AddLearner; kind <= api.Remove; kind++ {
		for n := 1; n <= 5; n++ {
			fresh(t, raftconf.Apply, c, api.Change{Kind: kind, Node: n})
		}
	}
	fresh(t, raftconf.Others, c, 2)
	fresh(t, raftconf.Path, c, api.Conf{Voters: []int{3}})
	fresh(t, codec.Unframe, append(codec.Frame([]byte("abcdef")), 1, 2, 3))
	fresh(t, codec.ReadItem, codec.Item(api.Item{Kind: api.ItemSnap, Snap: s}))
}

func TestShardsAnswerNewMemory(t *testing.T) {
	random := rand.New(rand.NewSource(2))
	for range 20 {
		p, _ := partfsm.New(api.Range{}, 1)
		for i := range uint64(20) {
			c := api.PartCommand{Kind: api.PartProduce, Epoch: 1, Producer: uint64(1 + random.Intn(3)), Seq: i + 1, Key: string(rune('a' + random.Intn(5))), Value: []byte("vvv")}
			if random.Intn(3) == 0 {
				c = api.PartCommand{Kind: api.PartKind(2 + random.Intn(3)), Epoch: 1, Producer: 1, Seq: i + 1, Name: "c", Most: 5, Offset: uint64(random.Intn(3))}
			}
			answer := fresh(t, partfsm.Do, p, c)
			fresh(t, partfsm.Apply, p, partfsm.Command(c))
			p = answer[0].Interface().(api.Part)
			lookAtPart(t, p)
		}
		p.Frozen = 1
		halves := fresh(t, lineage.Split, p, "c")
		a, b := halves[0].Interface().(api.Part), halves[1].Interface().(api.Part)
		a.Frozen, b.Frozen = 1, 1
		fresh(t, lineage.Merge, a, b)
	}
}

func lookAtPart(t *testing.T, p api.Part) {
	t.Helper()
	to := make([]uint64, len(p.Records)+1)
	fresh(t, partfsm.Read, partfsm.Bytes(p))
	fresh(t, records.Keep, p.Records, api.Range{Lo: "b"})
	fresh(t, records.Join, p.Records, p.Records)
	fresh(t, records.Fetch, p.Records, uint64(0), 9)
	fresh(t, records.Append, p.Records, api.Record{Value: []byte("x")})
	fresh(t, records.Map, p.Consumers, to)
	fresh(t, records.Both, p.Consumers, p.Consumers, to, to)
	fresh(t, records.Commit, p.Consumers, api.Consumer{Name: "z"}, uint64(9))
	fresh(t, producers.Move, p.Producers, to)
	fresh(t, producers.Both, p.Producers, p.Producers, to, to)
	fresh(t, producers.Both, p.Producers, []api.Producer(nil), to, to)
	fresh(t, producers.Pass, append(make([]api.Producer, 0, 20), p.Producers...), uint64(9), uint64(9))
}

func TestPlacementsAndClientsAnswerNewMemory(t *testing.T) {
	random := rand.New(rand.NewSource(3))
	for range 20 {
		p := placement.New()
		for i := range uint64(40) {
			c := api.PlaceCommand{Kind: api.PlaceKind(1 + random.Intn(5)), Producer: 1, Seq: i + 1, Topic: string(rune('a' + random.Intn(2))), Nodes: append(make([]int, 0, 5), 1, 2), Group: uint64(random.Intn(5)), Other: uint64(random.Intn(5)), Key: string(rune('a' + random.Intn(5))), From: 1, To: 3}
			if len(p.Plans) > 0 && random.Intn(2) == 0 {
				c = api.PlaceCommand{Kind: api.PlaceStep, Plan: p.Plans[0].ID, Step: p.Plans[0].Step}
			}
			answer := fresh(t, placement.Do, p, c)
			fresh(t, placement.Apply, p, placement.Command(c))
			fresh(t, placement.ReadCommand, placement.Command(c))
			p = answer[0].Interface().(api.Place)
			fresh(t, placement.Read, placement.Bytes(p))
			fresh(t, placement.Find, p, "a", "b")
			for _, x := range p.Plans {
				fresh(t, plans.Next, x, api.Seen{Made: []api.Site{{Group: 1, Node: 1}}})
			}
		}
		c := fresh(t, client.New, 4, []int{1, 2, 3}, uint64(4))[0].Interface().(api.Client)
		for range 60 {
			in := api.ClientInput{Kind: api.ClientKind(1 + random.Intn(3)), Call: api.Call{Kind: api.CallKind(1 + random.Intn(6)), Topic: "t", Key: "k", Value: []byte("v"), Name: "c", Admin: api.PlaceCommand{Kind: 1, Nodes: []int{1}}}}
			in.Reply = api.Reply{ID: c.Number, Err: []api.Errno{0, 0, 201, 202, 203, 9}[random.Intn(6)], Leader: random.Intn(4), Shards: []api.Shard{{Group: 1, Epoch: 1, Nodes: []int{1}, Past: []int{2}}}, Result: api.PartResult{Records: []api.Record{{Value: []byte("x")}}}}
			c = fresh(t, client.Step, c, in)[0].Interface().(api.Client)
		}
	}
}
