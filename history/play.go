package history

import (
	"bytes"
	"slices"

	"gazette/api"
	"gazette/lineage"
	"gazette/partfsm"
	"gazette/placement"
)

// past is what stories come to when they are played.
type past struct {
	place   api.Place
	births  map[uint64]birth
	parts   map[uint64]api.Part // the last states, by groups
	entries []entry
	records map[key]int // how often each record stands in the states of the placement's shards
}

// key is what a producer numbers its records by.
type key struct {
	producer, seq uint64
}

// birth is where a group comes from: of a plan, or of nothing.
type birth struct {
	topic   string
	parents []uint64
	plan    api.Plan
}

// entry is a committed one that was played: its command, what that was answered, and whether it changed something.
type entry struct {
	api.Applied
	part   api.PartCommand
	admin  api.PlaceCommand
	err    api.Errno
	number uint64
	result api.PartResult
	change bool
}

// inOrder: are a story's entries of its group, and do their indexes rise?
func inOrder(s api.Story) bool {
	var index uint64
	for _, x := range s.Entries {
		if x.Group != s.Group || x.Snapshot || x.Index <= index {
			return false
		}
		index = x.Index
	}
	return true
}

// play plays the placement's story.
func play(s api.Story) (*past, error) {
	p := &past{place: placement.New(), births: map[uint64]birth{}, parts: map[uint64]api.Part{}}
	if s.Group != 0 || !bytes.Equal(s.Seed, placement.Bytes(p.place)) || !inOrder(s) {
		return nil, &wrong{api.ErrHistoryStory, -1}
	}
	for _, a := range s.Entries {
		x := entry{Applied: a}
		x.admin, _ = placement.ReadCommand(a.Data)
		before := p.place
		p.place, x.number, x.err = placement.Apply(before, a.Data)
		x.change = seqOf(p.place.Producers, x.admin.Producer) == x.admin.Seq && seqOf(before.Producers, x.admin.Producer) != x.admin.Seq
		p.entries = append(p.entries, x)
		p.bear(x)
	}
	return p, nil
}

// seqOf is the last number of a producer; 0: it has none.
func seqOf(l []api.Producer, id uint64) uint64 {
	for _, x := range l {
		if x.ID == id {
			return x.Seq
		}
	}
	return 0
}

// bear notes the groups that an entry of the placement's lets be born.
func (p *past) bear(x entry) {
	if x.err != api.OK {
		return
	}
	switch x.admin.Kind {
	case api.PlaceCreate:
		p.births[x.number] = birth{topic: x.admin.Topic}
	case api.PlaceSplit, api.PlaceMerge:
		for _, plan := range p.place.Plans {
			if plan.ID == x.number {
				p.bearOf(plan)
			}
		}
	}
}

func (p *past) bearOf(plan api.Plan) {
	b := birth{topic: plan.Topic, plan: plan}
	switch plan.Kind {
	case api.PlanMerge:
		b.parents = append(b.parents, plan.Other)
		fallthrough
	case api.PlanSplit:
		b.parents = append(b.parents, plan.Group)
	}
	for _, group := range plan.Into {
		p.births[group] = b
	}
}

// playAll plays the placement's story, and then all others.
func playAll(place api.Story, l []api.Story) (*past, error) {
	p, err := play(place)
	if err != nil {
		return nil, err
	}
	for i, s := range l {
		follows := i == 0 || l[i-1].Group < s.Group
		if !follows || !inOrder(s) || !p.playPart(s) {
			return nil, &wrong{api.ErrHistoryStory, i}
		}
	}
	p.count()
	return p, nil
}

// count counts the records of the placement's shards.
func (p *past) count() {
	p.records = map[key]int{}
	for _, t := range p.place.Topics {
		for _, s := range t.Shards {
			for _, x := range p.parts[s.Group].Records {
				p.records[key{x.Producer, x.Seq}]++
			}
		}
	}
}

// playPart plays a shard's story: is it one?
func (p *past) playPart(s api.Story) bool {
	state, e := p.first(s.Group)
	if e != api.OK || !bytes.Equal(s.Seed, partfsm.Bytes(state)) {
		return false
	}
	for _, a := range s.Entries {
		x := entry{Applied: a}
		x.part, _ = partfsm.ReadCommand(a.Data)
		next, answer := partfsm.Apply(state, a.Data)
		x.result, _ = partfsm.ReadResult(answer)
		x.err = x.result.Err
		x.change = seqOf(next.Producers, x.part.Producer) == x.part.Seq && seqOf(state.Producers, x.part.Producer) != x.part.Seq
		p.entries = append(p.entries, x)
		state = next
	}
	p.parts[s.Group] = state
	return true
}

// first is a group's state at first, as it is born.
func (p *past) first(group uint64) (api.Part, api.Errno) {
	b, born := p.births[group]
	if !born {
		return api.Part{}, api.ErrHistoryStory
	}
	for _, parent := range b.parents {
		if _, played := p.parts[parent]; !played {
			return api.Part{}, api.ErrHistoryStory
		}
	}
	switch b.plan.Kind {
	case api.PlanSplit:
		lower, upper, e := lineage.Split(p.parts[b.plan.Group], b.plan.Key)
		if group == b.plan.Into[1] {
			return upper, e
		}
		return lower, e
	case api.PlanMerge:
		return lineage.Merge(p.parts[b.plan.Group], p.parts[b.plan.Other])
	}
	return partfsm.New(api.Range{}, 1)
}

// isElder: is a group a parent of another one, or a parent's? Groups come to be parted and joined again and again, so each is looked at once.
func (p *past) isElder(elder uint64, group uint64) bool {
	seen := map[uint64]struct{}{}
	left := p.births[group].parents
	for len(left) > 0 {
		next := left[0]
		left = left[1:]
		if next == elder {
			return true
		}
		if _, known := seen[next]; !known {
			seen[next] = struct{}{}
			left = slices.Concat(left, p.births[next].parents)
		}
	}
	return false
}
