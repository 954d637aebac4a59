package placement

import (
	"slices"

	"gazette/api"
	"gazette/keyrange"
	"gazette/producers"
	"gazette/records"
)

// Check: may a state be?
func Check(p api.Place) api.Errno {
	may := isNumber(p.NextGroup) && isNumber(p.NextPlan) && producersFit(p.Producers) &&
		len(p.Topics) <= api.MaxTopics && len(p.Plans) <= api.MaxPlans &&
		topicsFit(p) && plansFit(p) && shardsArePlanned(p)
	if !may {
		return api.ErrPlaceState
	}
	return api.OK
}

func isNumber(n uint64) bool { return n >= 1 && n <= last }

func producersFit(l []api.Producer) bool {
	here := find(l, func(x api.Producer) bool { return x.Here })
	return producers.Table(l) && here == nil
}

func isNode(n int) bool { return n >= 1 && n <= api.MaxNodes }

// rise: are these nodes, each above the one ahead of it?
func rise(l []int) bool {
	for i, n := range l {
		if !isNode(n) || i > 0 && l[i-1] >= n {
			return false
		}
	}
	return true
}

func nodesMayBe(l []int) bool { return len(l) > 0 && rise(l) }

func topicsFit(p api.Place) bool {
	groups := map[uint64]int{}
	for i, t := range p.Topics {
		follows := i == 0 || p.Topics[i-1].Name < t.Name
		if !records.Name(t.Name) || !follows || len(t.Shards)+splits(p, t.Name) > api.MaxShards || !isWhole(t) {
			return false
		}
		for _, s := range t.Shards {
			groups[s.Group]++
			if groups[s.Group] > 1 || !shardFits(p, s) {
				return false
			}
		}
	}
	return true
}

// splits is how many shards more a topic comes to have by what is planned.
func splits(p api.Place, topic string) int {
	n := 0
	for _, x := range p.Plans {
		if x.Kind == api.PlanSplit && x.Topic == topic && x.Step >= 0 && x.Step <= swapOf(x.Kind) {
			n++
		}
	}
	return n
}

func isWhole(t api.Topic) bool {
	var l []api.Range
	for _, s := range t.Shards {
		l = append(l, s.Range)
	}
	e, _ := keyrange.Whole(l)
	return e == api.OK
}

func shardFits(p api.Place, s api.Shard) bool {
	past := find(s.Past, func(n int) bool { return slices.Contains(s.Nodes, n) })
	return isGroup(p, s.Group) && isNumber(s.Epoch) && nodesMayBe(s.Nodes) && rise(s.Past) && past == nil
}

// isGroup: was a number given to a group?
func isGroup(p api.Place, group uint64) bool { return group != 0 && group < p.NextGroup }

// stepsOf is how many steps a kind of plans has.
func stepsOf(k api.PlanKind) int {
	switch k {
	case api.PlanSplit:
		return 4
	case api.PlanMerge, api.PlanMove:
		return 5
	}
	return 0
}

// swapOf is the step by which a kind of plans changes the shards.
func swapOf(k api.PlanKind) int { return stepsOf(k) - 2 }

func plansFit(p api.Place) bool {
	into := map[uint64]int{}
	for i, x := range p.Plans {
		follows := i == 0 || p.Plans[i-1].ID < x.ID
		if x.ID == 0 || x.ID >= p.NextPlan || !follows || !planFits(p, x) {
			return false
		}
		for _, group := range x.Into {
			if x.Step <= swapOf(x.Kind) {
				into[group]++
			}
			if into[group] > 1 {
				return false
			}
		}
	}
	return true
}

func planFits(p api.Place, x api.Plan) bool {
	t := findTopic(p, x.Topic)
	if t == nil || x.Step < 0 || x.Step >= stepsOf(x.Kind) || !nodesMayBe(x.Nodes) || !isGroup(p, x.Group) {
		return false
	}
	for _, group := range x.Into {
		if !isGroup(p, group) {
			return false
		}
	}
	switch x.Kind {
	case api.PlanSplit:
		return splitFits(p, t, x)
	case api.PlanMerge:
		return mergeFits(p, t, x)
	}
	return moveFits(t, x)
}

func splitFits(p api.Place, t *api.Topic, x api.Plan) bool {
	if len(x.Into) != 2 || x.Into[0] == x.Into[1] || x.Other != 0 || x.From != 0 || x.To != 0 || len(x.Key) > api.MaxKey {
		return false
	}
	if x.Step > swapOf(x.Kind) {
		return true
	}
	s := findShard(t.Shards, x.Group)
	if s == nil || s.Plan != x.ID || s.Epoch >= last || !slices.Equal(s.Nodes, x.Nodes) {
		return false
	}
	_, _, e := keyrange.Split(s.Range, x.Key)
	return e == api.OK && areFree(p, x.Into)
}

// areFree: has no shard one of these groups?
func areFree(p api.Place, groups []uint64) bool {
	for _, t := range p.Topics {
		for _, s := range t.Shards {
			if slices.Contains(groups, s.Group) {
				return false
			}
		}
	}
	return true
}

func mergeFits(p api.Place, t *api.Topic, x api.Plan) bool {
	if len(x.Into) != 1 || x.Key != "" || x.From != 0 || x.To != 0 || !isGroup(p, x.Other) {
		return false
	}
	if x.Step > swapOf(x.Kind) {
		return true
	}
	at := slices.IndexFunc(t.Shards, func(s api.Shard) bool { return s.Group == x.Group })
	if at < 0 || at+1 >= len(t.Shards) || t.Shards[at+1].Group != x.Other {
		return false
	}
	for _, s := range t.Shards[at : at+2] {
		if s.Plan != x.ID || s.Epoch >= last || !slices.Equal(s.Nodes, x.Nodes) {
			return false
		}
	}
	return areFree(p, x.Into)
}

func moveFits(t *api.Topic, x api.Plan) bool {
	s := findShard(t.Shards, x.Group)
	if s == nil || s.Plan != x.ID || len(x.Into) != 0 || x.Other != 0 || x.Key != "" {
		return false
	}
	if !isNode(x.From) || !isNode(x.To) || !slices.Contains(x.Nodes, x.From) || slices.Contains(x.Nodes, x.To) {
		return false
	}
	if x.Step > swapOf(x.Kind) {
		return slices.Equal(s.Nodes, moved(x))
	}
	return slices.Equal(s.Nodes, x.Nodes) && !slices.Contains(s.Past, x.To)
}

// moved are the nodes behind a move.
func moved(x api.Plan) []int {
	l := slices.Clone(x.Nodes)
	l[slices.Index(l, x.From)] = x.To
	slices.Sort(l)
	return l
}

// shardsArePlanned: has each shard's plan this shard?
func shardsArePlanned(p api.Place) bool {
	for _, t := range p.Topics {
		for _, s := range t.Shards {
			if s.Plan == 0 {
				continue
			}
			if x := findPlan(p, s.Plan); x == nil || !has(*x, s.Group) {
				return false
			}
		}
	}
	return true
}

// has: has a plan, at its step, the shard of a group?
func has(x api.Plan, group uint64) bool {
	if x.Kind != api.PlanMove && x.Step > swapOf(x.Kind) {
		return false
	}
	return group == x.Group || x.Kind == api.PlanMerge && group == x.Other
}
