package history_test

import (
	"fmt"
	"math/rand"
	"reflect"
	"slices"
	"testing"

	"gazette/api"
	"gazette/history"
	"gazette/lineage"
	"gazette/partfsm"
	"gazette/placement"
)

// scribe plays calls on the state machines alone, one after the other, and writes the stories.
type scribe struct {
	t       *testing.T
	place   api.Place
	parts   map[uint64]api.Part
	stories map[uint64]*api.Story
	calls   []api.Did
	now     int
	seq     map[uint64]uint64
}

func newScribe(t *testing.T) *scribe {
	x := &scribe{t: t, place: placement.New(), parts: map[uint64]api.Part{}, stories: map[uint64]*api.Story{}, seq: map[uint64]uint64{}}
	x.stories[0] = &api.Story{Seed: placement.Bytes(x.place)}
	return x
}

// entry puts data into a group's story: its index.
func (x *scribe) entry(group uint64, data []byte) uint64 {
	s := x.stories[group]
	index := uint64(len(s.Entries)) + 2
	s.Entries = append(s.Entries, api.Applied{Group: group, Index: index, Term: 1, Data: data})
	return index
}

func (x *scribe) born(group uint64, p api.Part, e api.Errno) {
	x.t.Helper()
	if e != api.OK {
		x.t.Fatal(group, e)
	}
	x.parts[group] = p
	x.stories[group] = &api.Story{Group: group, Seed: partfsm.Bytes(p)}
}

func (x *scribe) did(d api.Did) {
	d.Client, d.Number = 4, uint64(len(x.calls)+1)
	d.Began, d.Ended = x.now+1, x.now+5
	x.now += 10
	x.calls = append(x.calls, d)
}

// admin plays a call of the producer 9, and lets groups be born by it.
func (x *scribe) admin(c api.PlaceCommand) uint64 {
	x.seq[9]++
	did := api.Did{Producer: 9, Seq: x.seq[9], Call: api.Call{Kind: api.CallAdmin, Admin: c}}
	c.Producer, c.Seq = 9, x.seq[9]
	next, number, e := placement.Do(x.place, c)
	did.Reply = api.Reply{Err: e, Number: number, Index: x.entry(0, placement.Command(c)), Term: 1}
	x.place = next
	x.did(did)
	if e == api.OK && c.Kind == api.PlaceCreate {
		p, e := partfsm.New(api.Range{}, 1)
		x.born(number, p, e)
	}
	return number
}

// part plays a call of a client on a group.
func (x *scribe) part(group uint64, d api.Did, c api.PartCommand) {
	c.Epoch = x.parts[group].Epoch
	next, r := partfsm.Do(x.parts[group], c)
	d.Reply = api.Reply{Err: r.Err, Result: r, Group: group, Index: x.entry(group, partfsm.Command(c)), Term: 1}
	x.parts[group] = next
	x.did(d)
}

func (x *scribe) produce(group uint64, producer uint64, key, value string) {
	x.seq[producer]++
	call := api.Call{Kind: api.CallProduce, Topic: "t", Key: key, Value: []byte(value)}
	x.part(group, api.Did{Producer: producer, Seq: x.seq[producer], Call: call}, api.PartCommand{Kind: api.PartProduce, Producer: producer, Seq: x.seq[producer], Key: key, Value: []byte(value)})
}

func (x *scribe) commit(group uint64, producer uint64, name string, offset uint64) {
	x.seq[producer]++
	call := api.Call{Kind: api.CallCommit, Topic: "t", Key: "k", Name: name, Offset: offset}
	x.part(group, api.Did{Producer: producer, Seq: x.seq[producer], Call: call}, api.PartCommand{Kind: api.PartCommit, Producer: producer, Seq: x.seq[producer], Name: name, Offset: offset})
}

func (x *scribe) fetch(group uint64, offset uint64, most int) {
	x.part(group, api.Did{Call: api.Call{Kind: api.CallFetch, Topic: "t", Offset: offset, Most: most}}, api.PartCommand{Kind: api.PartFetch, Offset: offset, Most: most})
}

func (x *scribe) read(group uint64, name string) {
	x.part(group, api.Did{Call: api.Call{Kind: api.CallRead, Topic: "t", Name: name}}, api.PartCommand{Kind: api.PartRead, Name: name})
}

func (x *scribe) freeze(group, plan uint64) {
	c := api.PartCommand{Kind: api.PartFreeze, Epoch: x.parts[group].Epoch, Plan: plan}
	x.parts[group], _ = partfsm.Do(x.parts[group], c)
	x.entry(group, partfsm.Command(c))
}

func (x *scribe) steps(plan uint64, count int) {
	for n := range count {
		c := api.PlaceCommand{Kind: api.PlaceStep, Plan: plan, Step: n}
		x.place, _, _ = placement.Do(x.place, c)
		x.entry(0, placement.Command(c))
	}
}

func (x *scribe) split(group uint64, key string) {
	x.t.Helper()
	plan := x.admin(api.PlaceCommand{Kind: api.PlaceSplit, Topic: "t", Group: group, Key: key})
	into := x.place.Plans[0].Into
	x.freeze(group, plan)
	a, b, e := lineage.Split(x.parts[group], key)
	x.born(into[0], a, e)
	x.born(into[1], b, e)
	x.steps(plan, 4)
}

func (x *scribe) merge(group, other uint64) {
	x.t.Helper()
	plan := x.admin(api.PlaceCommand{Kind: api.PlaceMerge, Topic: "t", Group: group, Other: other})
	into := x.place.Plans[0].Into
	x.freeze(group, plan)
	x.freeze(other, plan)
	p, e := lineage.Merge(x.parts[group], x.parts[other])
	x.born(into[0], p, e)
	x.steps(plan, 5)
}

func (x *scribe) list() (api.Story, []api.Story) {
	var l []api.Story
	for g := uint64(1); g < 99; g++ {
		if s := x.stories[g]; s != nil {
			l = append(l, *s)
		}
	}
	return *x.stories[0], l
}

func (x *scribe) check(want api.Errno, at int) {
	x.t.Helper()
	place, l := x.list()
	if e, i := history.Check(place, l, x.calls); e != want || i != at {
		x.t.Errorf("%v at %d, not %v at %d", e, i, want, at)
	}
}

// example is the chapter's.
func example(t *testing.T) *scribe {
	x := newScribe(t)
	x.admin(api.PlaceCommand{Kind: api.PlaceCreate, Topic: "t", Nodes: []int{1}})
	x.calls = nil
	x.produce(1, 7, "k", "v")
	return x
}

// life is a topic's: it is split and merged.
func life(t *testing.T) *scribe {
	x := newScribe(t)
	x.admin(api.PlaceCommand{Kind: api.PlaceCreate, Topic: "t", Nodes: []int{1, 2, 3}})
	for _, key := range []string{"a", "m", "b"} {
		x.produce(1, 7, key, "v")
	}
	x.commit(1, 8, "c", 2)
	x.split(1, "c")
	x.produce(3, 7, "z", "w")
	x.fetch(2, 0, 9)
	x.read(3, "c")
	x.admin(api.PlaceCommand{Kind: api.PlaceCreate, Topic: "t", Nodes: []int{1}})
	x.merge(2, 3)
	x.produce(4, 7, "y", "u")
	x.read(4, "d")
	return x
}

func TestExamples(t *testing.T) {
	x := example(t)
	good := x.calls[0]
	x.calls = nil
	x.check(api.OK, 0)
	x.calls = []api.Did{good}
	x.check(api.OK, 0)
	bad := good
	bad.Reply.Result.Offset = 1
	x.calls = []api.Did{bad}
	x.check(api.ErrHistoryAnswer, 0)
	bad = good
	bad.Reply.Term = 2
	x.calls = []api.Did{bad}
	x.check(api.ErrHistoryCall, 0)
	x.calls = []api.Did{good, good}
	x.check(api.ErrHistoryTwice, 1)
	x.stories[0].Entries = nil
	x.check(api.ErrHistoryStory, 0)
	life(t).check(api.OK, 0)
}

func TestPlace(t *testing.T) {
	x := life(t)
	place, _ := x.list()
	if p, e := history.Place(place); e != 0 || !reflect.DeepEqual(p, x.place) {
		t.Error(p, e)
	}
	for i, do := range []func(s *api.Story){
		func(s *api.Story) { s.Group = 1 }, func(s *api.Story) { s.Seed = nil }, func(s *api.Story) { s.Seed = s.Seed[1:] }, func(s *api.Story) { s.Entries[1].Group = 1 }, func(s *api.Story) { s.Entries[1].Snapshot = true }, func(s *api.Story) { s.Entries[1].Index = s.Entries[0].Index }, func(s *api.Story) { s.Entries[0].Index = 0 },
	} {
		s := place
		s.Entries = slices.Clone(s.Entries)
		do(&s)
		if p, e := history.Place(s); e != api.ErrHistoryStory || !reflect.ValueOf(p).IsZero() {
			t.Error(i, p, e)
		}
		if l, e, at := history.Parts(s, nil); e != api.ErrHistoryStory || at != -1 || len(l) != 0 {
			t.Error(i, l, e, at)
		}
		if e, at := history.Check(s, nil, nil); e != api.ErrHistoryStory || at != -1 {
			t.Error(i, e, at)
		}
	}
	if p, e := history.Place(api.Story{Seed: placement.Bytes(placement.New())}); e != 0 || !reflect.DeepEqual(p, placement.New()) {
		t.Error(p, e)
	}
	odd := place
	odd.Entries = append(slices.Clone(place.Entries), api.Applied{Index: 99, Term: 1, Data: []byte("no command")})
	if p, e := history.Place(odd); e != 0 || !reflect.DeepEqual(p, x.place) {
		t.Error("an entry that is no command changes nothing", e)
	}
}

func TestParts(t *testing.T) {
	x := life(t)
	place, l := x.list()
	parts, e, at := history.Parts(place, l)
	if e != 0 || at != 0 || len(parts) != 4 {
		t.Fatal(e, at)
	}
	for i, p := range parts {
		if !reflect.DeepEqual(partfsm.Bytes(p), partfsm.Bytes(x.parts[uint64(i+1)])) {
			t.Error(i, p)
		}
	}
	for i, c := range []struct {
		do func(l []api.Story) []api.Story
		at int
	}{
		{func(l []api.Story) []api.Story { return l[1:] }, 0}, {func(l []api.Story) []api.Story { return slices.Delete(l, 1, 2) }, 2}, {func(l []api.Story) []api.Story { l[0], l[1] = l[1], l[0]; return l }, 0}, {func(l []api.Story) []api.Story { return append(l, l[3]) }, 4},
		{func(l []api.Story) []api.Story { l[3].Group = 5; return l }, 3}, {func(l []api.Story) []api.Story { l[2].Seed = l[1].Seed; return l }, 2}, {func(l []api.Story) []api.Story { l[0].Seed = nil; return l }, 0}, {func(l []api.Story) []api.Story { l[0].Entries = l[0].Entries[:3]; return l }, 1},
		{func(l []api.Story) []api.Story { l[1].Entries[0].Group = 1; return l }, 1}, {func(l []api.Story) []api.Story { l[1].Entries[0].Snapshot = true; return l }, 1}, {func(l []api.Story) []api.Story { l[0].Entries[1].Index = 2; return l }, 0}, {func(l []api.Story) []api.Story { l[0].Entries[0].Index = 0; return l }, 0},
		{func(l []api.Story) []api.Story { return append([]api.Story{place}, l...) }, 0}, {func(l []api.Story) []api.Story { l[1].Entries = nil; return l }, 3},
	} {
		bad := slices.Clone(l)
		for i := range bad {
			bad[i].Entries = slices.Clone(bad[i].Entries)
		}
		if parts, e, at := history.Parts(place, c.do(bad)); e != api.ErrHistoryStory || at != c.at || len(parts) != 0 {
			t.Error(i, e, at)
		}
	}
}

// spoilt is a life of whose calls one is changed.
func spoilt(t *testing.T, at int, do func(d *api.Did)) *scribe {
	x := life(t)
	do(&x.calls[at])
	return x
}

// The places of calls in a life.
const (
	theCreate = 0
	theA      = 1
	theCommit = 4
	theZ      = 6
	theFetch  = 7
	theRead   = 8
	theAgain  = 9
	theY      = 11
)

func TestCalls(t *testing.T) {
	for i, c := range []struct {
		at   int
		do   func(d *api.Did)
		want api.Errno
	}{
		{theA, func(d *api.Did) { d.Began = 0 }, api.ErrHistoryCall}, {theA, func(d *api.Did) { d.Ended = -1 }, api.ErrHistoryCall}, {theA, func(d *api.Did) { d.Ended = d.Began - 1 }, api.ErrHistoryCall}, {theA, func(d *api.Did) { d.Ended = d.Began }, 0}, {theA, func(d *api.Did) { d.Ended = 0 }, api.ErrHistoryCall},
		{theA, func(d *api.Did) { d.Call.Kind = 0 }, api.ErrHistoryCall}, {theA, func(d *api.Did) { d.Call.Kind = 7 }, api.ErrHistoryCall}, {theA, func(d *api.Did) { d.Call.Kind = api.CallRoute }, api.ErrHistoryCall}, {theA, func(d *api.Did) { d.Reply.Index = 99 }, api.ErrHistoryCall}, {theA, func(d *api.Did) { d.Reply.Group = 9 }, api.ErrHistoryCall},
		{theA, func(d *api.Did) { d.Producer = 9 }, api.ErrHistoryCall}, {theA, func(d *api.Did) { d.Seq = 9 }, api.ErrHistoryCall}, {theA, func(d *api.Did) { d.Call.Key = "q" }, api.ErrHistoryCall}, {theA, func(d *api.Did) { d.Call.Value = nil }, api.ErrHistoryCall}, {theA, func(d *api.Did) { d.Call.Topic = "u" }, api.ErrHistoryCall}, {theA, func(d *api.Did) { d.Call.Name = "x" }, 0},
		{theFetch, func(d *api.Did) { d.Call.Offset = 1 }, api.ErrHistoryCall}, {theFetch, func(d *api.Did) { d.Call.Most = 1 }, api.ErrHistoryCall}, {theFetch, func(d *api.Did) { d.Producer = 5 }, 0}, {theCommit, func(d *api.Did) { d.Call.Name = "d" }, api.ErrHistoryCall}, {theCommit, func(d *api.Did) { d.Call.Offset = 1 }, api.ErrHistoryCall}, {theCommit, func(d *api.Did) { d.Seq = 2 }, api.ErrHistoryCall}, {theRead, func(d *api.Did) { d.Call.Name = "d" }, api.ErrHistoryCall}, {theRead, func(d *api.Did) { d.Call.Kind = api.CallCommit }, api.ErrHistoryCall},
		{theCreate, func(d *api.Did) { d.Call.Admin.Topic = "u" }, api.ErrHistoryCall}, {theCreate, func(d *api.Did) { d.Seq = 2 }, api.ErrHistoryCall}, {theCreate, func(d *api.Did) { d.Producer = 8 }, api.ErrHistoryCall}, {theCreate, func(d *api.Did) { d.Call.Admin.Kind = 9 }, api.ErrHistoryCall}, {theCreate, func(d *api.Did) { d.Call.Admin.Key = "unnamed" }, 0}, {theCreate, func(d *api.Did) { d.Call.Topic = "unnamed" }, 0},
		{theA, func(d *api.Did) { d.Reply.Err = 9 }, api.ErrHistoryAnswer}, {theA, func(d *api.Did) { d.Reply.Result.Old = true }, api.ErrHistoryAnswer}, {theA, func(d *api.Did) { d.Reply.Number = 1 }, api.ErrHistoryAnswer}, {theA, func(d *api.Did) { d.Reply.Leader = 1 }, api.ErrHistoryAnswer}, {theA, func(d *api.Did) { d.Reply.Shards = make([]api.Shard, 1) }, api.ErrHistoryAnswer}, {theFetch, func(d *api.Did) { d.Reply.Result.Records = nil }, api.ErrHistoryAnswer},
		{theCreate, func(d *api.Did) { d.Reply.Number = 2 }, api.ErrHistoryAnswer}, {theCreate, func(d *api.Did) { d.Reply.Result.Offset = 2 }, api.ErrHistoryAnswer}, {theAgain, func(d *api.Did) { d.Reply.Err = 0 }, api.ErrHistoryAnswer}, {theA, func(d *api.Did) { d.Reply.ID = 77 }, 0}, {theA, func(d *api.Did) { d.Reply = api.Reply{Err: api.ErrClientTime} }, 0}, {theA, func(d *api.Did) { d.Reply, d.Ended = api.Reply{}, 0 }, 0},
	} {
		x := spoilt(t, c.at, c.do)
		at := c.at
		if c.want == api.OK {
			at = 0
		}
		place, l := x.list()
		if e, got := history.Check(place, l, x.calls); e != c.want || got != at {
			t.Error(i, e, got)
		}
	}
}

func TestOrder(t *testing.T) {
	x := life(t)
	x.calls[theA].Began, x.calls[theA].Ended = 500, 505
	x.check(api.ErrHistoryOrder, theA+1)
	x = life(t)
	x.calls[theA], x.calls[theA+1] = x.calls[theA+1], x.calls[theA]
	x.check(api.OK, 0)
	x = life(t)
	x.calls[theZ].Began, x.calls[theZ].Ended = 1, 2
	x.check(api.ErrHistoryOrder, theZ)
	x.calls[theZ].Ended = 999
	x.check(api.OK, 0)
	x.calls[theA].Began, x.calls[theA].Ended = 1000, 1001
	x.check(api.ErrHistoryOrder, theA+1)
	x = life(t)
	x.calls[theY].Began, x.calls[theY].Ended = 1, 2
	x.check(api.ErrHistoryOrder, theY)
	x.calls = []api.Did{x.calls[theY], x.calls[theA]}
	x.check(api.ErrHistoryOrder, 1)
	x.calls[1].Began = 2
	x.check(api.OK, 0)
	other := life(t)
	other.calls[theFetch].Began, other.calls[theFetch].Ended = 1, 2
	other.calls = other.calls[theZ:]
	other.check(api.OK, 0)
}

func TestTwice(t *testing.T) {
	x := life(t)
	again := x.stories[1].Entries[0]
	again.Index = 99
	x.stories[1].Entries = append(x.stories[1].Entries, again)
	x.check(api.OK, 0)
	y := newScribe(t)
	y.admin(api.PlaceCommand{Kind: api.PlaceCreate, Topic: "t", Nodes: []int{1}})
	y.admin(api.PlaceCommand{Kind: api.PlaceCreate, Topic: "u", Nodes: []int{1}})
	y.produce(1, 7, "k", "v")
	d := y.calls[2]
	y.seq[7] = 0
	y.produce(2, 7, "k", "v")
	y.calls = []api.Did{d}
	y.check(api.ErrHistoryTwice, 0)
	y.calls = nil
	y.check(api.ErrHistoryTwice, -1)
	z := newScribe(t)
	z.admin(api.PlaceCommand{Kind: api.PlaceCreate, Topic: "t", Nodes: []int{1}})
	plan := z.admin(api.PlaceCommand{Kind: api.PlaceSplit, Topic: "t", Group: 1, Key: "m"})
	z.freeze(1, plan)
	a, b, e := lineage.Split(z.parts[1], "m")
	z.born(2, a, e)
	z.born(3, b, e)
	z.steps(plan, 4)
	z.produce(2, 7, "a", "v")
	z.check(api.OK, 0)
	delete(z.stories, 3)
	z.check(api.OK, 0)
	z.calls[2].Call.Key = "q"
	z.check(api.ErrHistoryCall, 2)
	delete(z.stories, 2)
	z.calls = z.calls[:2]
	z.check(api.OK, 0)
}

func TestAnsweredIsThere(t *testing.T) {
	x := example(t)
	x.stories[0].Entries = append(x.stories[0].Entries,
		api.Applied{Index: 3, Term: 1, Data: placement.Command(api.PlaceCommand{Kind: api.PlaceSplit, Producer: 9, Seq: 5, Topic: "t", Group: 1, Key: "m"})})
	for n := range 3 {
		x.stories[0].Entries = append(x.stories[0].Entries, api.Applied{Index: uint64(4 + n), Term: 1, Data: placement.Command(api.PlaceCommand{Kind: api.PlaceStep, Plan: 1, Step: n})})
	}
	x.check(api.ErrHistoryTwice, 0)
	x.calls[0].Reply = api.Reply{Err: api.ErrClientTime}
	x.check(api.OK, 0)
}

func TestTooMany(t *testing.T) {
	x := example(t)
	place, l := x.list()
	calls := make([]api.Did, api.MaxCalls+1)
	if e, at := history.Check(place, l, calls); e != api.ErrTooMany || at != 0 {
		t.Error(e, at)
	}
	if e, at := history.Check(api.Story{}, nil, calls); e != api.ErrTooMany || at != 0 {
		t.Error(e, at)
	}
	if e, at := history.Check(place, l, calls[1:]); e != api.ErrHistoryCall || at != 0 {
		t.Error(e, at)
	}
}

// TestOneAfterTheOther plays P23.2 and P23.3.
func TestOneAfterTheOther(t *testing.T) {
	random := rand.New(rand.NewSource(1))
	for range 60 {
		x := newScribe(t)
		x.admin(api.PlaceCommand{Kind: api.PlaceCreate, Topic: "t", Nodes: []int{1, 2}})
		for range 25 {
			key := string(rune('a' + random.Intn(20)))
			s, _ := placement.Find(x.place, "t", key)
			shards := x.place.Topics[0].Shards
			switch i := random.Intn(len(shards)); random.Intn(9) {
			case 0:
				if key > s.Range.Lo && len(shards) < 6 {
					x.split(s.Group, key)
				}
			case 1:
				if i+1 < len(shards) {
					a, b := x.parts[shards[i].Group], x.parts[shards[i+1].Group]
					a.Frozen, b.Frozen = 1, 1
					if _, e := lineage.Merge(a, b); e == api.OK {
						x.merge(shards[i].Group, shards[i+1].Group)
					}
				}
			case 2:
				x.fetch(s.Group, uint64(random.Intn(3)), 5)
			case 3:
				x.commit(s.Group, 8, "c", uint64(random.Intn(3)))
			case 4:
				x.read(s.Group, "c")
			default:
				x.produce(s.Group, uint64(6+random.Intn(2)), key, fmt.Sprint(random.Intn(9)))
			}
		}
		x.check(api.OK, 0)
		place, l := x.list()
		for n := range x.calls {
			if e, at := history.Check(place, l, x.calls[:n]); e != api.OK || at != 0 {
				t.Fatal(n, e, at)
			}
		}
		at := random.Intn(len(x.calls))
		if x.calls[at].Call.Kind == api.CallAdmin {
			x.calls[at].Reply.Number += 3
		} else {
			x.calls[at].Reply.Result.Offset += 3
		}
		x.check(api.ErrHistoryAnswer, at)
	}
}
