package copies

import "gazette/api"

// Record is a copy of a record.
func Record(x api.Record) api.Record {
	x.Value = List(x.Value)
	return x
}

// Records is a copy of records.
func Records(l []api.Record) []api.Record {
	size := 0
	for i := range l {
		size += len(l[i].Value)
	}
	r := newRoom(size)
	return Each(l, func(x api.Record) api.Record {
		x.Value = r.copied(x.Value)
		return x
	})
}

// Part is a copy of a shard's state.
func Part(p api.Part) api.Part {
	p.Records = Records(p.Records)
	p.Producers = List(p.Producers)
	p.Consumers = List(p.Consumers)
	return p
}
