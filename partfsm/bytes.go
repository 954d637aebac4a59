package partfsm

import (
	"gazette/api"
	"gazette/codec"
)

// Command writes a command.
func Command(c api.PartCommand) []byte {
	w := &codec.Writer{}
	w.Int(int(c.Kind))
	w.Uint(c.Epoch)
	switch c.Kind {
	case api.PartProduce:
		w.Uint(c.Producer)
		w.Uint(c.Seq)
		w.String(c.Key)
		w.Bytes(c.Value)
	case api.PartFetch:
		w.Uint(c.Offset)
		w.Int(c.Most)
	case api.PartCommit:
		w.Uint(c.Producer)
		w.Uint(c.Seq)
		w.String(c.Name)
		w.Uint(c.Offset)
	case api.PartRead:
		w.String(c.Name)
	case api.PartFreeze, api.PartThaw:
		w.Uint(c.Plan)
	default:
		return nil
	}
	return w.Done()
}

// ReadCommand reads one.
func ReadCommand(b []byte) (api.PartCommand, api.Errno) {
	r := codec.NewReader(b)
	c := api.PartCommand{Kind: api.PartKind(r.Int()), Epoch: r.Uint()}
	switch c.Kind {
	case api.PartProduce:
		c.Producer, c.Seq = r.Uint(), r.Uint()
		c.Key, c.Value = r.String(api.MaxKey), r.Bytes(api.MaxValue)
	case api.PartFetch:
		c.Offset, c.Most = r.Uint(), r.Int()
	case api.PartCommit:
		c.Producer, c.Seq = r.Uint(), r.Uint()
		c.Name, c.Offset = r.String(api.MaxKey), r.Uint()
	case api.PartRead:
		c.Name = r.String(api.MaxKey)
	case api.PartFreeze, api.PartThaw:
		c.Plan = r.Uint()
	}
	if r.Done() != api.OK || !wellFormed(c) {
		return api.PartCommand{}, api.ErrPartCommand
	}
	return c, api.OK
}

// Result writes what a command answers.
func Result(x api.PartResult) []byte {
	w := &codec.Writer{}
	w.Int(int(x.Err))
	w.Uint(x.Offset)
	w.Bool(x.Old)
	writeRecords(w, x.Records)
	return w.Done()
}

// ReadResult reads it.
func ReadResult(b []byte) (api.PartResult, api.Errno) {
	r := codec.NewReader(b)
	x := api.PartResult{Err: api.Errno(r.Int()), Offset: r.Uint(), Old: r.Bool(), Records: readRecords(r, api.MaxFetch)}
	if r.Done() != api.OK {
		return api.PartResult{}, api.ErrPartCommand
	}
	return x, api.OK
}

func writeRecords(w *codec.Writer, l []api.Record) {
	w.Uint(uint64(len(l)))
	for _, x := range l {
		w.Record(x)
	}
}

func readRecords(r *codec.Reader, most int) []api.Record {
	var l []api.Record
	for range r.Count(most) {
		l = append(l, r.Record())
	}
	return l
}

// Bytes writes a state.
func Bytes(p api.Part) []byte {
	w := &codec.Writer{}
	w.Range(p.Range)
	w.Uint(p.Epoch)
	w.Uint(p.Frozen)
	writeRecords(w, p.Records)
	w.Uint(uint64(len(p.Producers)))
	for _, x := range p.Producers {
		w.Uint(x.ID)
		w.Uint(x.Seq)
		w.Bool(x.Here)
		w.Uint(x.Offset)
	}
	w.Uint(uint64(len(p.Consumers)))
	for _, x := range p.Consumers {
		w.String(x.Name)
		w.Uint(x.Offset)
	}
	return w.Done()
}

// Read reads one.
func Read(b []byte) (api.Part, api.Errno) {
	r := codec.NewReader(b)
	p := api.Part{Range: r.Range(), Epoch: r.Uint(), Frozen: r.Uint(), Records: readRecords(r, api.MaxRecords)}
	for range r.Count(api.MaxProducers) {
		p.Producers = append(p.Producers, api.Producer{ID: r.Uint(), Seq: r.Uint(), Here: r.Bool(), Offset: r.Uint()})
	}
	for range r.Count(api.MaxConsumers) {
		p.Consumers = append(p.Consumers, api.Consumer{Name: r.String(api.MaxKey), Offset: r.Uint()})
	}
	if r.Done() != api.OK || Check(p) != api.OK {
		return api.Part{}, api.ErrPartState
	}
	return p, api.OK
}
