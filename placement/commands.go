package placement

import (
	"slices"
	"strings"

	"gazette/api"
	"gazette/copies"
	"gazette/keyrange"
	"gazette/records"
)

func (w *work) create() error {
	c := w.command
	switch {
	case !records.Name(c.Topic):
		return refused("a topic's name", api.ErrPlaceName)
	case findTopic(w.place, c.Topic) != nil:
		return refused("a topic that is there", api.ErrPlaceTopic)
	case !nodesMayBe(c.Nodes):
		return refused("nodes", api.ErrPlaceNode)
	case len(w.place.Topics) >= api.MaxTopics || w.place.NextGroup >= last:
		return refused("topics", api.ErrTooMany)
	}
	w.number = w.newGroup()
	t := api.Topic{Name: c.Topic, Shards: []api.Shard{{Group: w.number, Epoch: 1, Nodes: copies.List(c.Nodes)}}}
	at, _ := slices.BinarySearchFunc(w.place.Topics, t, func(a, b api.Topic) int { return strings.Compare(a.Name, b.Name) })
	w.place.Topics = slices.Insert(w.place.Topics, at, t)
	return nil
}

func (w *work) newGroup() uint64 {
	w.place.NextGroup++
	return w.place.NextGroup - 1
}

// What a plan needs, in the order in which it is asked.
const (
	needTopic = iota
	needShards
	needIdle
)

// shards are those of groups, if a plan of the command's topic may have them.
func (w *work) shards(groups ...uint64) ([]*api.Shard, error) {
	var t *api.Topic
	var l []*api.Shard
	switch need := needTopic; need {
	case needTopic:
		if t = findTopic(w.place, w.command.Topic); t == nil {
			return nil, refused("no such topic", api.ErrPlaceTopic)
		}
		fallthrough
	case needShards:
		for _, group := range groups {
			s := findShard(t.Shards, group)
			if s == nil {
				return nil, refused("no such shard", api.ErrPlaceShard)
			}
			l = append(l, s)
		}
		fallthrough
	case needIdle:
		for _, s := range l {
			if s.Plan != 0 {
				return nil, refused("a plan is under way", api.ErrPlaceBusy)
			}
		}
	}
	return l, nil
}

// roomForPlan: may there be one more?
func (w *work) roomForPlan() error {
	p := w.place
	if len(p.Plans) >= api.MaxPlans || p.NextPlan >= last || p.NextGroup > last-2 {
		return refused("plans", api.ErrTooMany)
	}
	return nil
}

// plan makes a plan that has shards; its nodes are theirs.
func (w *work) plan(x api.Plan, shards []*api.Shard) {
	x.ID = w.place.NextPlan
	x.Topic, x.Group, x.Nodes = w.command.Topic, w.command.Group, copies.List(shards[0].Nodes)
	w.place.NextPlan++
	for _, s := range shards {
		s.Plan = x.ID
	}
	w.place.Plans = append(w.place.Plans, x)
	w.number = x.ID
}

func (w *work) split() error {
	c := w.command
	l, err := w.shards(c.Group)
	if err != nil {
		return err
	}
	if _, _, e := keyrange.Split(l[0].Range, c.Key); e != api.OK {
		return refused("a key", e)
	}
	t := findTopic(w.place, c.Topic)
	if len(t.Shards)+splits(w.place, c.Topic) >= api.MaxShards || l[0].Epoch >= last {
		return refused("shards", api.ErrTooMany)
	}
	if err := w.roomForPlan(); err != nil {
		return err
	}
	w.plan(api.Plan{Kind: api.PlanSplit, Key: c.Key, Into: []uint64{w.newGroup(), w.newGroup()}}, l)
	return nil
}

func (w *work) merge() error {
	c := w.command
	l, err := w.shards(c.Group, c.Other)
	if err != nil {
		return err
	}
	if _, e := keyrange.Merge(l[0].Range, l[1].Range); e != api.OK {
		return refused("ranges", e)
	}
	if !slices.Equal(l[0].Nodes, l[1].Nodes) {
		return refused("other nodes", api.ErrPlaceNode)
	}
	if l[0].Epoch >= last || l[1].Epoch >= last {
		return refused("epochs", api.ErrTooMany)
	}
	if err := w.roomForPlan(); err != nil {
		return err
	}
	w.plan(api.Plan{Kind: api.PlanMerge, Other: c.Other, Into: []uint64{w.newGroup()}}, l)
	return nil
}

func (w *work) move() error {
	c := w.command
	l, err := w.shards(c.Group)
	if err != nil {
		return err
	}
	nodes, past := l[0].Nodes, l[0].Past
	if !slices.Contains(nodes, c.From) || !isNode(c.To) || slices.Contains(nodes, c.To) || slices.Contains(past, c.To) {
		return refused("nodes", api.ErrPlaceNode)
	}
	if err := w.roomForPlan(); err != nil {
		return err
	}
	w.plan(api.Plan{Kind: api.PlanMove, From: c.From, To: c.To}, l)
	return nil
}

// step does a plan's step, if it is the next one; one that was done is done.
func (w *work) step() error {
	c := w.command
	if c.Plan == 0 || c.Plan >= w.place.NextPlan {
		return refused("no such plan", api.ErrPlanNone)
	}
	x := findPlan(w.place, c.Plan)
	if x == nil {
		return nil
	}
	if c.Step < 0 || c.Step > x.Step {
		return refused("not the plan's step", api.ErrPlaceStep)
	}
	if c.Step < x.Step {
		return nil
	}
	if x.Step == swapOf(x.Kind) {
		w.swap(*x)
	}
	x.Step++
	if x.Step == stepsOf(x.Kind) {
		w.end(*x)
	}
	return nil
}

// swap puts what a plan made in the place of what it had.
func (w *work) swap(x api.Plan) {
	t := findTopic(w.place, x.Topic)
	at := slices.IndexFunc(t.Shards, func(s api.Shard) bool { return s.Group == x.Group })
	s := &t.Shards[at]
	switch x.Kind {
	case api.PlanSplit:
		lower, upper, _ := keyrange.Split(s.Range, x.Key)
		a := api.Shard{Group: x.Into[0], Range: lower, Epoch: s.Epoch + 1, Nodes: copies.List(s.Nodes)}
		b := api.Shard{Group: x.Into[1], Range: upper, Epoch: s.Epoch + 1, Nodes: copies.List(s.Nodes)}
		t.Shards = slices.Replace(t.Shards, at, at+1, a, b)
	case api.PlanMerge:
		other := t.Shards[at+1]
		joined, _ := keyrange.Merge(s.Range, other.Range)
		m := api.Shard{Group: x.Into[0], Range: joined, Epoch: max(s.Epoch, other.Epoch) + 1, Nodes: copies.List(s.Nodes)}
		t.Shards = slices.Replace(t.Shards, at, at+2, m)
	case api.PlanMove:
		s.Nodes = moved(x)
		s.Past = append(s.Past, x.From)
		slices.Sort(s.Past)
	}
}

// end takes a plan away; no shard has it any more.
func (w *work) end(x api.Plan) {
	for _, t := range w.place.Topics {
		for i := range t.Shards {
			if t.Shards[i].Plan == x.ID {
				t.Shards[i].Plan = 0
			}
		}
	}
	w.place.Plans = copies.Plans(slices.DeleteFunc(w.place.Plans, func(y api.Plan) bool { return y.ID == x.ID }))
}
