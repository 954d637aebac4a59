package copies

import "gazette/api"

// Record is a copy of a record.
func Record(x api.Record) api.Record {
	x.Value = List(x.Value)
	return x
}

// Records is a copy of records.
func Records(l []api.Record) []api.Record {
	size := 0
	for i := range l {
		size += len(l[i].Value)
	}
	r := newRoom(size)
	return Each(l, func(x api.Record) api.Record {
		x.Value = r.copied(x.Value)
		return x
	})
}

// Part is a copy of a shard's state.
func Part(p api.Part) api.Part {
	p.Records = Records(p.Records)
	p.Producers = List(p.Producers)
	p.Consumers = List(p.Consumers)
	return p
}

// Shard is a copy of a shard.
func Shard(s api.Shard) api.Shard {
	s.Nodes = List(s.Nodes)
	s.Past = List(s.Past)
	return s
}

// Shards is a copy of shards.
func Shards(l []api.Shard) []api.Shard { return Each(l, Shard) }

// Topics is a copy of topics.
func Topics(l []api.Topic) []api.Topic {
	return Each(l, func(t api.Topic) api.Topic { return api.Topic{Name: t.Name, Shards: Shards(t.Shards)} })
}

// Plans is a copy of plans.
func Plans(l []api.Plan) []api.Plan {
	return Each(l, func(p api.Plan) api.Plan {
		p.Into = List(p.Into)
		p.Nodes = List(p.Nodes)
		return p
	})
}

// Place is a copy of the placement's state.
func Place(p api.Place) api.Place {
	p.Producers = List(p.Producers)
	p.Topics = Topics(p.Topics)
	p.Plans = Plans(p.Plans)
	return p
}

// Applied is a copy of what was committed.
func Applied(a api.Applied) api.Applied {
	a.Data = List(a.Data)
	return a
}

// Story is a copy of a group's story.
func Story(s api.Story) api.Story {
	return api.Story{Group: s.Group, Seed: List(s.Seed), Entries: Each(s.Entries, Applied)}
}
