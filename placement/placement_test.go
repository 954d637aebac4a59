package placement_test

import (
	"bytes"
	"encoding/hex"
	"fmt"
	"math"
	"math/rand"
	"reflect"
	"slices"
	"strings"
	"testing"

	"gazette/api"
	"gazette/placement"
)

const last = 1 << 62

// show tells topics, shards and plans.
func show(p api.Place) string {
	s := ""
	for _, t := range p.Topics {
		s += t.Name + ":"
		for _, x := range t.Shards {
			s += fmt.Sprintf(" %d[%s-%s]e%d%v", x.Group, x.Range.Lo, x.Range.Hi, x.Epoch, x.Nodes)
			if len(x.Past) > 0 {
				s += fmt.Sprintf("past%v", x.Past)
			}
			if x.Plan != 0 {
				s += fmt.Sprintf("p%d", x.Plan)
			}
		}
		s += ";"
	}
	for _, x := range p.Plans {
		s += fmt.Sprintf(" plan%d/%d", x.ID, x.Step)
	}
	return s
}

// player does commands, each with a new number, one behind the other.
type player struct {
	t   *testing.T
	p   api.Place
	seq uint64
}

func (y *player) do(c api.PlaceCommand, number uint64, want api.Errno) {
	y.t.Helper()
	y.seq++
	if c.Kind != api.PlaceStep {
		c.Producer, c.Seq = 9, y.seq
	}
	before := y.p
	next, n, e := placement.Do(y.p, c)
	if n != number || e != want {
		y.t.Errorf("%v: %d %v, not %d %v", c, n, e, number, want)
	}
	if placement.Check(next) != api.OK {
		y.t.Errorf("%v: a state that may not be: %s", c, show(next))
	}
	if c.Kind != api.PlaceStep && (len(next.Producers) != 1 || next.Producers[0] != api.Producer{ID: 9, Seq: y.seq}) {
		y.t.Error("the number did not go by", c, next.Producers)
	}
	if e != api.OK && show(next) != show(before) {
		y.t.Error("refused, and done", c, show(next))
	}
	y.p = next
}

func (y *player) shows(want string) {
	y.t.Helper()
	if got := show(y.p); got != want {
		y.t.Errorf("%q, not %q", got, want)
	}
}

func create(topic string, nodes ...int) api.PlaceCommand {
	return api.PlaceCommand{Kind: api.PlaceCreate, Topic: topic, Nodes: nodes}
}

func split(topic string, group uint64, key string) api.PlaceCommand {
	return api.PlaceCommand{Kind: api.PlaceSplit, Topic: topic, Group: group, Key: key}
}

func merge(topic string, group, other uint64) api.PlaceCommand {
	return api.PlaceCommand{Kind: api.PlaceMerge, Topic: topic, Group: group, Other: other}
}

func move(topic string, group uint64, from, to int) api.PlaceCommand {
	return api.PlaceCommand{Kind: api.PlaceMove, Topic: topic, Group: group, From: from, To: to}
}

func step(plan uint64, n int) api.PlaceCommand {
	return api.PlaceCommand{Kind: api.PlaceStep, Plan: plan, Step: n}
}

func (y *player) steps(plan uint64, from, to int) {
	y.t.Helper()
	for n := from; n <= to; n++ {
		y.do(step(plan, n), 0, api.OK)
	}
}

func TestExamples(t *testing.T) {
	y := &player{t: t, p: placement.New()}
	y.do(create("t", 1, 2, 3), 1, 0)
	y.shows("t: 1[-]e1[1 2 3];")
	y.do(split("t", 1, "m"), 1, 0)
	y.shows("t: 1[-]e1[1 2 3]p1; plan1/0")
	y.do(step(1, 0), 0, 0)
	y.do(step(1, 1), 0, 0)
	y.do(step(1, 0), 0, 0)
	y.do(step(1, 3), 0, api.ErrPlaceStep)
	y.shows("t: 1[-]e1[1 2 3]p1; plan1/2")
	y.do(step(1, 2), 0, 0)
	y.shows("t: 2[-m]e2[1 2 3] 3[m-]e2[1 2 3]; plan1/3")
	y.do(step(1, 3), 0, 0)
	y.do(step(1, 3), 0, 0)
	y.do(step(2, 0), 0, api.ErrPlanNone)
	y.do(merge("t", 2, 3), 2, 0)
	y.do(move("t", 2, 1, 4), 0, api.ErrPlaceBusy)
	y.do(move("t", 9, 1, 4), 0, api.ErrPlaceShard)
	y.steps(2, 0, 3)
	y.shows("t: 4[-]e3[1 2 3]; plan2/4")
	y.do(move("t", 4, 1, 4), 3, 0)
	y.steps(3, 0, 3)
	y.shows("t: 4[-]e3[2 3 4]past[1]p3; plan2/4 plan3/4")
	y.steps(3, 4, 4)
	y.steps(2, 4, 4)
	y.shows("t: 4[-]e3[2 3 4]past[1];")
	y.do(move("t", 4, 2, 1), 0, api.ErrPlaceNode)
	y.do(step(3, 9), 0, 0)
	y.do(step(3, -1), 0, 0)
}

func TestRefusals(t *testing.T) {
	y := &player{t: t, p: placement.New()}
	y.do(create("t", 1, 2), 1, 0)
	y.do(create("b", 3), 2, 0)
	y.shows("b: 2[-]e1[3];t: 1[-]e1[1 2];")
	y.do(create("T"), 0, api.ErrPlaceName)
	y.do(create("t"), 0, api.ErrPlaceTopic)
	y.do(create("u"), 0, api.ErrPlaceNode)
	y.do(create("u", 2, 1), 0, api.ErrPlaceNode)
	y.do(create("u", 1, 8), 0, api.ErrPlaceNode)
	y.do(create("u", 0), 0, api.ErrPlaceNode)
	y.do(split("u", 9, ""), 0, api.ErrPlaceTopic)
	y.do(split("t", 2, ""), 0, api.ErrPlaceShard)
	y.do(split("t", 1, ""), 0, api.ErrKeyRange)
	y.do(split("t", 1, strings.Repeat("k", 33)), 0, api.ErrKeyLong)
	y.do(split("t", 1, "m"), 1, 0)
	y.do(split("t", 1, ""), 0, api.ErrPlaceBusy)
	y.steps(1, 0, 3)
	y.do(merge("u", 3, 4), 0, api.ErrPlaceTopic)
	y.do(merge("t", 9, 4), 0, api.ErrPlaceShard)
	y.do(merge("t", 3, 9), 0, api.ErrPlaceShard)
	y.do(merge("t", 4, 3), 0, api.ErrKeyApart)
	y.do(merge("t", 3, 3), 0, api.ErrKeyApart)
	y.do(move("u", 3, 1, 3), 0, api.ErrPlaceTopic)
	y.do(move("t", 3, 3, 4), 0, api.ErrPlaceNode)
	y.do(move("t", 3, 1, 2), 0, api.ErrPlaceNode)
	y.do(move("t", 3, 1, 0), 0, api.ErrPlaceNode)
	y.do(move("t", 3, 1, 8), 0, api.ErrPlaceNode)
	y.do(move("t", 3, 1, 7), 2, 0)
	y.do(merge("t", 3, 4), 0, api.ErrPlaceBusy)
	y.do(step(2, -1), 0, api.ErrPlaceStep)
	y.do(step(0, 0), 0, api.ErrPlanNone)
	y.steps(2, 0, 4)
	y.do(merge("t", 3, 4), 0, api.ErrPlaceNode)
	y.shows("b: 2[-]e1[3];t: 3[-m]e2[2 7]past[1] 4[m-]e2[1 2];")
}

func TestNumbersThatWentBy(t *testing.T) {
	c := create("t", 1)
	for i, x := range []struct {
		kind          api.PlaceKind
		producer, seq uint64
		want          api.Errno
	}{{0, 9, 1, api.ErrPlaceCommand}, {6, 9, 1, api.ErrPlaceCommand}, {1, 0, 1, api.ErrPlaceCommand}, {1, 9, 0, api.ErrPlaceCommand}, {1, 9, 1 << 63, api.ErrPlaceCommand}, {1, 9, 1<<63 - 1, 0}} {
		c.Kind, c.Producer, c.Seq = x.kind, x.producer, x.seq
		p, _, e := placement.Do(placement.New(), c)
		if e != x.want || e != 0 && !reflect.DeepEqual(p, placement.New()) {
			t.Error(i, p, e)
		}
	}
	c.Kind, c.Seq = api.PlaceCreate, 5
	p, _, _ := placement.Do(placement.New(), c)
	for _, seq := range []uint64{5, 4} {
		c.Seq = seq
		if next, n, e := placement.Do(p, c); e != api.ErrPlaceOld || n != 0 || !reflect.DeepEqual(next, p) {
			t.Error(seq, e)
		}
	}
	full := placement.New()
	for i := range api.MaxProducers {
		full.Producers = append(full.Producers, api.Producer{ID: uint64(10 + i), Seq: 1})
	}
	c.Producer, c.Topic = 9, "T"
	if next, _, e := placement.Do(full, c); e != api.ErrProducersFull || !reflect.DeepEqual(next, full) {
		t.Error(e)
	}
	if next, n, e := placement.Do(api.Place{}, c); e != api.ErrPlaceState || n != 0 || !reflect.ValueOf(next).IsZero() {
		t.Error(next, e)
	}
}

func TestTooMany(t *testing.T) {
	y := &player{t: t, p: placement.New()}
	for i := range api.MaxTopics {
		y.do(create(fmt.Sprintf("t%d", i), 1), uint64(i+1), 0)
	}
	y.do(create("u", 1), 0, api.ErrTooMany)
	for i := range api.MaxPlans {
		topic := fmt.Sprintf("t%d", i/2)
		if i%2 == 0 {
			y.do(split(topic, uint64(i/2+1), "m"), uint64(i+1), 0)
			y.steps(uint64(i+1), 0, 2)
		} else {
			y.do(split(topic, uint64(9+i/2*4), "c"), uint64(i+1), 0)
		}
	}
	y.do(move("t0", 10, 1, 2), 0, api.ErrTooMany)
	y.do(split("t0", 10, "z"), 0, api.ErrTooMany)
	y.steps(1, 3, 3)
	y.do(move("t0", 10, 1, 2), 17, 0)
	for _, c := range []struct {
		do      func(p *api.Place)
		command api.PlaceCommand
		want    api.Errno
	}{
		{func(p *api.Place) { p.NextGroup = last }, create("z", 1), api.ErrTooMany}, {func(p *api.Place) { p.NextGroup = last - 1 }, create("z", 1), 0}, {func(p *api.Place) { p.NextGroup = last - 1 }, split("t", 1, "m"), api.ErrTooMany},
		{func(p *api.Place) { p.NextGroup = last - 2 }, split("t", 1, "m"), 0}, {func(p *api.Place) { p.NextPlan = last }, split("t", 1, "m"), api.ErrTooMany}, {func(p *api.Place) { p.NextPlan = last }, move("t", 1, 1, 4), api.ErrTooMany},
		{func(p *api.Place) { p.NextGroup = last - 1 }, move("t", 1, 1, 4), api.ErrTooMany}, {func(p *api.Place) { p.Topics[0].Shards[0].Epoch = last }, split("t", 1, "m"), api.ErrTooMany}, {func(p *api.Place) { p.Topics[0].Shards[0].Epoch = last - 1 }, split("t", 1, "m"), 0},
		{func(p *api.Place) { p.Topics[0].Shards[0].Epoch = last }, move("t", 1, 1, 4), 0},
	} {
		z := &player{t: t, p: placement.New()}
		z.do(create("t", 1, 2, 3), 1, 0)
		c.do(&z.p)
		c.command.Producer, c.command.Seq = 9, 7
		if _, _, e := placement.Do(z.p, c.command); e != c.want {
			t.Error(c.command, e)
		}
	}
}

func TestMaxShards(t *testing.T) {
	y := &player{t: t, p: placement.New()}
	y.do(create("t", 1), 1, 0)
	group, plan := uint64(1), uint64(0)
	for i := range api.MaxShards - 2 {
		plan++
		y.do(split("t", group, fmt.Sprintf("k%02d", i)), plan, 0)
		y.steps(plan, 0, 3)
		group += 2
	}
	shards := y.p.Topics[0].Shards
	if len(shards) != api.MaxShards-1 {
		t.Fatal(len(shards))
	}
	y.do(split("t", shards[0].Group, "a"), plan+1, 0)
	y.do(split("t", shards[30].Group, "z"), 0, api.ErrTooMany)
	y.steps(plan+1, 0, 2)
	y.do(split("t", shards[30].Group, "z"), 0, api.ErrTooMany)
	y.do(merge("t", shards[1].Group, shards[2].Group), plan+2, 0)
	y.steps(plan+2, 0, 3)
	y.do(split("t", shards[30].Group, "z"), plan+3, 0)
}

// busy is a state with a split, a merge and a move under way.
func busy(t *testing.T) api.Place {
	y := &player{t: t, p: placement.New()}
	y.do(create("a", 1, 2, 3), 1, 0)
	y.do(create("b", 1, 2), 2, 0)
	y.do(split("b", 2, "m"), 1, 0)
	y.steps(1, 0, 3)
	y.do(create("c", 1), 5, 0)
	y.do(split("a", 1, "k"), 2, 0)
	y.do(merge("b", 3, 4), 3, 0)
	y.do(move("c", 5, 1, 7), 4, 0)
	return y.p
}

func TestCheck(t *testing.T) {
	if placement.Check(placement.New()) != 0 || placement.Check(busy(t)) != 0 || placement.Check(api.Place{}) != api.ErrPlaceState {
		t.Error("Check")
	}
	for i, do := range []func(p *api.Place){
		func(p *api.Place) { p.NextGroup = 0 }, func(p *api.Place) { p.NextGroup = last + 1 }, func(p *api.Place) { p.NextPlan = 0 }, func(p *api.Place) { p.NextPlan = last + 1 }, func(p *api.Place) { p.NextGroup = 8 }, func(p *api.Place) { p.NextPlan = 4 },
		func(p *api.Place) { p.Producers[0].Here = true }, func(p *api.Place) { p.Producers[0].ID = 0 }, func(p *api.Place) { p.Topics[0].Name = "A" }, func(p *api.Place) { p.Topics[0].Name = "b" }, func(p *api.Place) { p.Topics[1].Shards[0].Range.Hi = "n" },
		func(p *api.Place) { p.Topics[2].Shards = nil }, func(p *api.Place) { p.Topics[0].Shards[0].Group = 0 }, func(p *api.Place) { p.Topics[1].Shards[0].Group = 4 }, func(p *api.Place) { p.Topics[0].Shards[0].Epoch = 0 }, func(p *api.Place) { p.Topics[2].Shards[0].Epoch = last + 1 },
		func(p *api.Place) { p.Topics[0].Shards[0].Epoch = last }, func(p *api.Place) { p.Topics[1].Shards[1].Epoch = last }, func(p *api.Place) { p.Topics[0].Shards[0].Nodes = nil }, func(p *api.Place) { p.Topics[0].Shards[0].Nodes[0] = 8 }, func(p *api.Place) { p.Topics[0].Shards[0].Nodes[0] = 2 },
		func(p *api.Place) { p.Topics[0].Shards[0].Past = []int{1} }, func(p *api.Place) { p.Topics[0].Shards[0].Past = []int{5, 4} }, func(p *api.Place) { p.Topics[0].Shards[0].Past = []int{8} }, func(p *api.Place) { p.Topics[2].Shards[0].Past = []int{7} },
		func(p *api.Place) { p.Topics[0].Shards[0].Plan = 0 }, func(p *api.Place) { p.Topics[0].Shards[0].Plan = 3 }, func(p *api.Place) { p.Topics[1].Shards[1].Plan = 0 }, func(p *api.Place) { p.Topics[2].Shards[0].Plan = 1 }, func(p *api.Place) { p.Topics[2].Shards[0].Plan = 9 },
		func(p *api.Place) { p.Plans[0].ID = 0 }, func(p *api.Place) { p.Plans[1].ID = 2 }, func(p *api.Place) { p.Plans[0].Kind = 0 }, func(p *api.Place) { p.Plans[0].Kind = 4 }, func(p *api.Place) { p.Plans[0].Step = -1 }, func(p *api.Place) { p.Plans[0].Step = 4 },
		func(p *api.Place) { p.Plans[1].Step = 5 }, func(p *api.Place) { p.Plans[2].Step = 5 }, func(p *api.Place) { p.Plans[0].Step = 3 }, func(p *api.Place) { p.Plans[1].Step = 4 }, func(p *api.Place) { p.Plans[2].Step = 4 }, func(p *api.Place) { p.Plans[0].Topic = "x" },
		func(p *api.Place) { p.Plans[0].Topic = "b" }, func(p *api.Place) { p.Plans[0].Into = []uint64{6} }, func(p *api.Place) { p.Plans[0].Into = []uint64{6, 6} }, func(p *api.Place) { p.Plans[0].Into[0] = 0 }, func(p *api.Place) { p.Plans[0].Into[0] = 9 }, func(p *api.Place) { p.Plans[0].Into[0] = 5 },
		func(p *api.Place) { p.Plans[0].Into[0] = 8 }, func(p *api.Place) { p.Plans[0].Other = 1 }, func(p *api.Place) { p.Plans[0].From = 1 }, func(p *api.Place) { p.Plans[0].To = 1 }, func(p *api.Place) { p.Plans[0].Nodes = []int{1, 2} }, func(p *api.Place) { p.Plans[0].Nodes = nil },
		func(p *api.Place) { p.Plans[0].Key = "" }, func(p *api.Place) { p.Plans[0].Key = strings.Repeat("k", 33) }, func(p *api.Place) { p.Plans[0].Group = 2 }, func(p *api.Place) { p.Plans[1].Key = "k" }, func(p *api.Place) { p.Plans[1].Other = 5 }, func(p *api.Place) { p.Plans[1].Group, p.Plans[1].Other = 4, 3 },
		func(p *api.Place) { p.Plans[1].From = 1 }, func(p *api.Place) { p.Plans[1].Into = nil }, func(p *api.Place) { p.Plans[1].Into = []uint64{7, 8} }, func(p *api.Place) { p.Topics[1].Shards[1].Nodes = []int{1, 3} }, func(p *api.Place) { p.Plans[2].Into = []uint64{8} }, func(p *api.Place) { p.Plans[2].Other = 1 },
		func(p *api.Place) { p.Plans[2].Key = "k" }, func(p *api.Place) { p.Plans[2].From = 2 }, func(p *api.Place) { p.Plans[2].To = 1 }, func(p *api.Place) { p.Plans[2].To = 0 }, func(p *api.Place) { p.Plans[2].To = 8 }, func(p *api.Place) { p.Plans[2].Nodes = []int{1, 2} },
		func(p *api.Place) { p.Plans = p.Plans[1:] }, func(p *api.Place) { p.Plans[2].Group = 9 }, func(p *api.Place) { p.Plans = append(p.Plans, make([]api.Plan, 20)...) },
	} {
		p := busy(t)
		do(&p)
		if placement.Check(p) != api.ErrPlaceState {
			t.Error(i, show(p))
		}
		if _, e := placement.Read(placement.Bytes(p)); e != api.ErrPlaceState && p.Producers[0].ID == 9 && !p.Producers[0].Here {
			t.Error(i, "read", e)
		}
		if next, n, e := placement.Apply(p, placement.Command(step(1, 0))); e != api.ErrPlaceState || n != 0 || !reflect.ValueOf(next).IsZero() {
			t.Error(i, e)
		}
	}
}

func TestFind(t *testing.T) {
	p := busy(t)
	for _, c := range []struct {
		topic, key string
		group      uint64
		ok         bool
	}{{"a", "zz", 1, true}, {"b", "", 3, true}, {"b", "m", 4, true}, {"x", "", 0, false}, {"b", strings.Repeat("k", 33), 0, false}} {
		s, ok := placement.Find(p, c.topic, c.key)
		if s.Group != c.group || ok != c.ok {
			t.Error(c, s, ok)
		}
	}
	s, _ := placement.Find(p, "a", "")
	s.Nodes[0] = 7
	if p.Topics[0].Shards[0].Nodes[0] != 1 {
		t.Error("memory is shared")
	}
}

func numbered(c api.PlaceCommand) api.PlaceCommand {
	c.Producer, c.Seq = 9, 300
	return c
}

func TestBytes(t *testing.T) {
	for want, c := range map[string]api.PlaceCommand{
		"0209ac0201740204" + "06": numbered(create("t", 2, 3)), "0409ac02017401016d": numbered(split("t", 1, "m")), "0609ac0201740203": numbered(merge("t", 2, 3)), "0809ac020174020208": numbered(move("t", 2, 1, 4)), "0a0104": step(1, 2),
	} {
		b := placement.Command(c)
		if hex.EncodeToString(b) != want {
			t.Error(hex.EncodeToString(b), want)
		}
		if got, e := placement.ReadCommand(b); e != 0 || !reflect.DeepEqual(got, c) {
			t.Error(got, e)
		}
		for _, bad := range [][]byte{append(bytes.Clone(b), 0), b[:len(b)-1], nil, {0}, {12, 1, 1}, {12}} {
			if got, e := placement.ReadCommand(bad); e != api.ErrPlaceCommand || !reflect.ValueOf(got).IsZero() {
				t.Error(bad, got, e)
			}
		}
	}
	if len(placement.Command(api.PlaceCommand{Kind: 6, Producer: 1})) != 0 || len(placement.Command(api.PlaceCommand{})) != 0 {
		t.Error("a command of no kind")
	}
	if _, e := placement.ReadCommand(placement.Command(numbered(create(strings.Repeat("t", 33))))); e != api.ErrPlaceCommand {
		t.Error(e)
	}
	if c, e := placement.ReadCommand(placement.Command(create("", 9))); e != 0 || c.Nodes[0] != 9 {
		t.Error(e)
	}
	y := &player{t: t, p: placement.New()}
	y.do(create("t", 1, 2), 1, 0)
	y.do(split("t", 1, "m"), 1, 0)
	if got := hex.EncodeToString(placement.Bytes(y.p)); got != "0402"+"010902"+"01"+"0174"+"01"+"010000"+"01"+"020204"+"00"+"01"+"01"+"0102"+"0174"+"0100"+"016d"+"020203"+"020204"+"000000" {
		t.Error(got)
	}
	for _, p := range []api.Place{placement.New(), y.p, busy(t)} {
		b := placement.Bytes(p)
		got, e := placement.Read(b)
		if e != 0 || !reflect.DeepEqual(got, p) {
			t.Error(got, e)
		}
		for _, bad := range [][]byte{append(bytes.Clone(b), 0), b[:len(b)-1]} {
			if got, e := placement.Read(bad); e != api.ErrPlaceState || !reflect.ValueOf(got).IsZero() {
				t.Error(e)
			}
		}
	}
}

func TestApply(t *testing.T) {
	p := placement.New()
	next, n, e := placement.Apply(p, placement.Command(numbered(create("t", 1))))
	if n != 1 || e != 0 || show(next) != "t: 1[-]e1[1];" {
		t.Error(show(next), n, e)
	}
	if same, n, e := placement.Apply(next, []byte{99}); n != 0 || e != api.ErrPlaceCommand || !reflect.DeepEqual(same, next) {
		t.Error(e)
	}
	if none, _, e := placement.Apply(api.Place{}, []byte{99}); e != api.ErrPlaceState || !reflect.ValueOf(none).IsZero() {
		t.Error(e)
	}
}

func TestMemory(t *testing.T) {
	nodes := []int{1, 2}
	p, _, _ := placement.Do(placement.New(), numbered(create("t", nodes...)))
	nodes[0] = 7
	c := split("t", 1, "m")
	c.Producer, c.Seq = 9, 301
	q, _, _ := placement.Do(p, c)
	q.Topics[0].Shards[0].Nodes[0], q.Plans[0].Nodes[1] = 5, 6
	if show(p) != "t: 1[-]e1[1 2];" || q.Topics[0].Shards[0].Nodes[1] != 2 {
		t.Error(show(p), show(q))
	}
}

func randomCommand(random *rand.Rand, p api.Place) api.PlaceCommand {
	topic := string(rune('a' + random.Intn(3)))
	group, other := uint64(random.Intn(int(min(p.NextGroup, math.MaxInt32))+1)), uint64(random.Intn(int(p.NextGroup)+1))
	if random.Intn(3) > 0 && len(p.Topics) > 0 {
		t := p.Topics[random.Intn(len(p.Topics))]
		i := random.Intn(len(t.Shards))
		topic, group = t.Name, t.Shards[i].Group
		if i+1 < len(t.Shards) {
			other = t.Shards[i+1].Group
		}
	}
	c := api.PlaceCommand{Kind: api.PlaceKind(1 + random.Intn(5)), Producer: 1 + uint64(random.Intn(2)), Seq: uint64(1 + random.Intn(500)), Topic: topic, Group: group, Other: other, Key: string(rune('a' + random.Intn(26))), From: 1 + random.Intn(7), To: 1 + random.Intn(7), Plan: uint64(random.Intn(int(p.NextPlan) + 1)), Step: random.Intn(6)}
	if random.Intn(5) > 0 && len(p.Plans) > 0 && random.Intn(2) == 0 {
		x := p.Plans[random.Intn(len(p.Plans))]
		c.Kind, c.Plan, c.Step = api.PlaceStep, x.ID, x.Step
	}
	c.Nodes = [][]int{{1, 2, 3}, {2, 4}, {5}}[random.Intn(3)]
	return c
}

func groups(p api.Place) []uint64 {
	var l []uint64
	for _, t := range p.Topics {
		for _, s := range t.Shards {
			l = append(l, s.Group)
		}
	}
	return l
}

// TestPromises plays P18.2 to P18.6.
func TestPromises(t *testing.T) {
	random := rand.New(rand.NewSource(1))
	plans := 0
	for range 60 {
		p := placement.New()
		gone := map[uint64]bool{}
		seqs := map[uint64]uint64{}
		for range 150 {
			c := randomCommand(random, p)
			seqs[c.Producer]++
			if random.Intn(4) > 0 {
				c.Seq = seqs[c.Producer]
			}
			next, n, e := placement.Do(p, c)
			if placement.Check(next) != 0 || next.NextGroup < p.NextGroup || next.NextPlan < p.NextPlan {
				t.Fatal(show(p), c, show(next))
			}
			seqs[c.Producer] = max(seqs[c.Producer], c.Seq*uint64(min(1, 5-int(c.Kind))))
			for _, g := range groups(next) {
				if gone[g] {
					t.Fatal("a group comes again", g)
				}
			}
			for _, g := range groups(p) {
				gone[g] = !slices.Contains(groups(next), g)
			}
			if again, _, _ := placement.Do(next, c); c.Kind != api.PlaceStep && !reflect.DeepEqual(again, next) {
				t.Fatal("a command that comes again", c)
			}
			if b, m, f := placement.Apply(p, placement.Command(c)); m != n || f != e || !reflect.DeepEqual(b, next) {
				t.Fatal("Apply is not Do", c)
			}
			if got, e := placement.Read(placement.Bytes(next)); e != 0 || !reflect.DeepEqual(got, next) {
				t.Fatal("there and back", show(next))
			}
			p = next
			plans += len(p.Plans)
		}
		for len(p.Plans) > 0 {
			x := p.Plans[random.Intn(len(p.Plans))]
			next, _, e := placement.Do(p, step(x.ID, x.Step))
			if e != 0 || reflect.DeepEqual(next, p) {
				t.Fatal("a plan does not go on", show(p))
			}
			if late, _, _ := placement.Do(next, step(x.ID, x.Step)); !reflect.DeepEqual(late, next) {
				t.Fatal("a late step", show(p))
			}
			p = next
		}
		if strings.Contains(show(p), "p1") {
			t.Fatal("somebody has a plan", show(p))
		}
	}
	if plans < 1000 {
		t.Error("too few plans", plans)
	}
}
