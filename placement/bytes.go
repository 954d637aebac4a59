package placement

import (
	"gazette/api"
	"gazette/codec"
)

// Command writes a command.
func Command(c api.PlaceCommand) []byte {
	w := &codec.Writer{}
	w.Int(int(c.Kind))
	if c.Kind != api.PlaceStep {
		w.Uint(c.Producer)
		w.Uint(c.Seq)
	}
	switch c.Kind {
	case api.PlaceCreate:
		w.String(c.Topic)
		writeNodes(w, c.Nodes)
	case api.PlaceSplit:
		w.String(c.Topic)
		w.Uint(c.Group)
		w.String(c.Key)
	case api.PlaceMerge:
		w.String(c.Topic)
		w.Uint(c.Group)
		w.Uint(c.Other)
	case api.PlaceMove:
		w.String(c.Topic)
		w.Uint(c.Group)
		w.Int(c.From)
		w.Int(c.To)
	case api.PlaceStep:
		w.Uint(c.Plan)
		w.Int(c.Step)
	default:
		return nil
	}
	return w.Done()
}

// ReadCommand reads one.
func ReadCommand(b []byte) (api.PlaceCommand, api.Errno) {
	r := codec.NewReader(b)
	c := api.PlaceCommand{Kind: api.PlaceKind(r.Int())}
	if c.Kind != api.PlaceStep {
		c.Producer, c.Seq = r.Uint(), r.Uint()
		c.Topic = r.String(api.MaxKey)
	}
	switch c.Kind {
	case api.PlaceCreate:
		c.Nodes = readList(r, api.MaxNodes, r.Int)
	case api.PlaceSplit:
		c.Group, c.Key = r.Uint(), r.String(api.MaxKey)
	case api.PlaceMerge:
		c.Group, c.Other = r.Uint(), r.Uint()
	case api.PlaceMove:
		c.Group, c.From, c.To = r.Uint(), r.Int(), r.Int()
	case api.PlaceStep:
		c.Plan, c.Step = r.Uint(), r.Int()
	default:
		r.Fail(api.ErrPlaceCommand)
	}
	if r.Done() != api.OK {
		return api.PlaceCommand{}, api.ErrPlaceCommand
	}
	return c, api.OK
}

func writeNodes(w *codec.Writer, l []int) {
	w.Uint(uint64(len(l)))
	for _, n := range l {
		w.Int(n)
	}
}

// readList reads a list, element by element.
func readList[T any](r *codec.Reader, most int, one func() T) []T {
	var l []T
	for range r.Count(most) {
		l = append(l, one())
	}
	return l
}

// Bytes writes a state.
func Bytes(p api.Place) []byte {
	w := &codec.Writer{}
	w.Uint(p.NextGroup)
	w.Uint(p.NextPlan)
	w.Uint(uint64(len(p.Producers)))
	for _, x := range p.Producers {
		w.Uint(x.ID)
		w.Uint(x.Seq)
	}
	w.Uint(uint64(len(p.Topics)))
	for _, t := range p.Topics {
		w.String(t.Name)
		w.Uint(uint64(len(t.Shards)))
		for _, s := range t.Shards {
			writeShard(w, s)
		}
	}
	w.Uint(uint64(len(p.Plans)))
	for _, x := range p.Plans {
		writePlan(w, x)
	}
	return w.Done()
}

func writeShard(w *codec.Writer, s api.Shard) {
	w.Uint(s.Group)
	w.Range(s.Range)
	w.Uint(s.Epoch)
	writeNodes(w, s.Nodes)
	writeNodes(w, s.Past)
	w.Uint(s.Plan)
}

func writePlan(w *codec.Writer, x api.Plan) {
	w.Uint(x.ID)
	w.Int(int(x.Kind))
	w.String(x.Topic)
	w.Uint(x.Group)
	w.Uint(x.Other)
	w.String(x.Key)
	w.Uint(uint64(len(x.Into)))
	for _, group := range x.Into {
		w.Uint(group)
	}
	writeNodes(w, x.Nodes)
	w.Int(x.From)
	w.Int(x.To)
	w.Int(x.Step)
}

// Read reads one.
func Read(b []byte) (api.Place, api.Errno) {
	r := codec.NewReader(b)
	p := api.Place{
		NextGroup: r.Uint(), NextPlan: r.Uint(),
		Producers: readList(r, api.MaxProducers, func() api.Producer { return api.Producer{ID: r.Uint(), Seq: r.Uint()} }),
		Topics:    readList(r, api.MaxTopics, func() api.Topic { return readTopic(r) }),
		Plans:     readList(r, api.MaxPlans, func() api.Plan { return readPlan(r) }),
	}
	if r.Done() != api.OK || Check(p) != api.OK {
		return api.Place{}, api.ErrPlaceState
	}
	return p, api.OK
}

func readTopic(r *codec.Reader) api.Topic {
	return api.Topic{Name: r.String(api.MaxKey), Shards: readList(r, api.MaxShards, func() api.Shard {
		return api.Shard{
			Group: r.Uint(), Range: r.Range(), Epoch: r.Uint(),
			Nodes: readList(r, api.MaxNodes, r.Int), Past: readList(r, api.MaxNodes, r.Int), Plan: r.Uint(),
		}
	})}
}

func readPlan(r *codec.Reader) api.Plan {
	return api.Plan{
		ID: r.Uint(), Kind: api.PlanKind(r.Int()), Topic: r.String(api.MaxKey), Group: r.Uint(), Other: r.Uint(),
		Key: r.String(api.MaxKey), Into: readList(r, 2, r.Uint), Nodes: readList(r, api.MaxNodes, r.Int),
		From: r.Int(), To: r.Int(), Step: r.Int(),
	}
}
