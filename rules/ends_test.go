package rules_test

import (
	"math/rand"
	"reflect"
	"testing"

	"gazette/api"
	"gazette/beats"
	"gazette/broker"
	"gazette/client"
	"gazette/cluster"
	"gazette/codec"
	"gazette/console"
	"gazette/history"
	"gazette/keyrange"
	"gazette/lineage"
	"gazette/multiraft"
	"gazette/partfsm"
	"gazette/placement"
	"gazette/plans"
	"gazette/producers"
	"gazette/quorum"
	"gazette/raftconf"
	"gazette/raftcore"
	"gazette/raftlog"
	"gazette/raftsnap"
	"gazette/records"
	"gazette/simdisk"
	"gazette/simnet"
	"gazette/wal"
	"gazette/walindex"
)

// odd are numbers at the edges of what may be.
var odd = []uint64{0, 0, 1, 1, 2, 2, 3, 3, 4, 5, 6, 7, 8, 9, 64, 1 << 61, 1<<62 - 1, 1 << 62, 1<<63 - 1, 1 << 63, 1<<64 - 1}

// fill makes a thing whatever its type lets it be.
func fill(random *rand.Rand, v reflect.Value) {
	switch v.Kind() {
	case reflect.Struct:
		for i := range v.NumField() {
			fill(random, v.Field(i))
		}
	case reflect.Slice:
		n := random.Intn(4)
		if v.Type().Elem().Kind() == reflect.Uint8 {
			n = random.Intn(12)
		}
		v.Set(reflect.MakeSlice(v.Type(), n, n))
		for i := range n {
			fill(random, v.Index(i))
		}
	case reflect.Int:
		v.SetInt(int64(odd[random.Intn(len(odd))]))
		if random.Intn(9) == 0 {
			v.SetInt(-int64(random.Intn(4)))
		}
	case reflect.Uint8:
		v.SetUint(uint64(random.Intn(14)))
	case reflect.Uint64:
		v.SetUint(odd[random.Intn(len(odd))])
	case reflect.Bool:
		v.SetBool(random.Intn(2) == 0)
	case reflect.String:
		v.SetString([]string{"", "a", "b", "c", "m", "t", "Z", "wal-00000001", string(make([]byte, 40))}[random.Intn(9)])
	}
}

// call calls a function with whatever arguments.
func call(random *rand.Rand, f reflect.Value) {
	var args []reflect.Value
	for i := range f.Type().NumIn() {
		a := reflect.New(f.Type().In(i)).Elem()
		fill(random, a)
		args = append(args, a)
	}
	f.Call(args)
}

// TestEveryCallEnds plays P1: a call that panics ends the test.
func TestEveryCallEnds(t *testing.T) {
	random := rand.New(rand.NewSource(1))
	functions := []any{
		codec.Sum, codec.Frame, codec.Unframe, codec.Item, codec.ReadItem, codec.NewReader, simdisk.New, simnet.New, wal.Name, wal.Open, walindex.New,
		raftlog.Check, raftlog.Last, raftlog.Term, raftlog.Slice, raftlog.Newer, raftlog.Merge, raftlog.Compact, raftlog.Conf, quorum.Most, quorum.Has, quorum.Tally, quorum.Commit,
		raftconf.Check, raftconf.Apply, raftconf.Votes, raftconf.Learns, raftconf.Others, raftconf.Path, raftsnap.Piece, raftsnap.Take, raftsnap.Whole, raftsnap.Pieces, raftcore.New, raftcore.Step, raftcore.Status,
		beats.Is, beats.Pack, beats.Open, multiraft.New, keyrange.Check, keyrange.Has, keyrange.Split, keyrange.Merge, keyrange.Meet, keyrange.Find, keyrange.Whole,
		records.Name, records.Log, records.Append, records.Fetch, records.Keep, records.Join, records.Consumers, records.Commit, records.Read, records.Map, records.Both,
		producers.Table, producers.Judge, producers.Accept, producers.Pass, producers.Move, producers.Both, partfsm.New, partfsm.Check, partfsm.Do, partfsm.Command, partfsm.ReadCommand, partfsm.Result, partfsm.ReadResult, partfsm.Bytes, partfsm.Read, partfsm.Apply,
		lineage.Split, lineage.Merge, placement.New, placement.Check, placement.Do, placement.Find, placement.Command, placement.ReadCommand, placement.Bytes, placement.Read, placement.Apply, plans.Steps, plans.Next,
		broker.New, broker.Request, broker.ReadRequest, broker.Reply, broker.ReadReply, client.New, client.Step, cluster.New, history.Place, history.Parts, history.Check, console.Run,
	}
	for i := range 200000 {
		call(random, reflect.ValueOf(functions[i%len(functions)]))
	}
}

// things are one of each type that has methods.
func things(t *testing.T) []any {
	t.Helper()
	d, _ := simdisk.New(api.MaxRoom)
	n, _ := simnet.New(3)
	w, _, _ := wal.Open(d.Clone())
	h, _ := multiraft.New(1, d.Clone())
	p, _ := partfsm.New(api.Range{}, 1)
	h.Create(0, api.Conf{Voters: []int{1}}, placement.Bytes(placement.New()))
	h.Create(1, api.Conf{Voters: []int{1}}, partfsm.Bytes(p))
	h.Tick(1)
	b, _ := broker.New(1, []int{1, 2, 3})
	c, e := cluster.New(3, 1)
	if e != api.OK {
		t.Fatal(e)
	}
	return []any{d, n, w, walindex.New(), codec.NewReader([]byte{1, 2, 3, 200, 0, 0, 4, 5, 255, 255}), &codec.Writer{}, h, b, c}
}

func TestEveryMethodEnds(t *testing.T) {
	random := rand.New(rand.NewSource(2))
	for range 150 {
		for _, x := range things(t) {
			v := reflect.ValueOf(x)
			for range 60 {
				call(random, v.Method(random.Intn(v.NumMethod())))
			}
		}
	}
}

// TestBrokersAndHostsEnd gives a broker packets of its kinds, with a host that leads its groups.
func TestBrokersAndHostsEnd(t *testing.T) {
	random := rand.New(rand.NewSource(3))
	for range 150 {
		l := things(t)
		h, b := l[6].(*multiraft.Host), l[7].(*broker.Broker)
		for range 60 {
			p := api.Packet{}
			fill(random, reflect.ValueOf(&p).Elem())
			p.From, p.To, p.Kind = 2, 1, 1+random.Intn(7)
			h.Receive(p)
			b.Receive(h, p)
			_, told, _ := h.Round()
			b.Told(told)
			b.Tick(h)
		}
	}
}
