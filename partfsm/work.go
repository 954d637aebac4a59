package partfsm

import (
	"gazette/api"
	"gazette/keyrange"
	"gazette/producers"
	"gazette/records"
)

func (w *work) keyLiesWithin() error {
	if !keyrange.Has(w.part.Range, w.command.Key) {
		return refused("a key of another range", api.ErrPartKey)
	}
	return nil
}

// isNew asks whether the change went by: a record that stands here answers again where; a commit has nothing to tell but that.
func (w *work) isNew() error {
	c := w.command
	v, offset := producers.Judge(w.part.Producers, c.Producer, c.Seq)
	switch {
	case v == api.SeqNew:
		return nil
	case c.Kind == api.PartCommit:
		w.result = api.PartResult{Old: true}
		return errDone
	case v == api.SeqOld:
		w.result = api.PartResult{Offset: offset, Old: true}
		return errDone
	}
	return refused("a number that went by", api.ErrProducersOld)
}

func (w *work) produce() error {
	c := w.command
	x := api.Record{Key: c.Key, Value: c.Value, Producer: c.Producer, Seq: c.Seq}
	l, offset, e := records.Append(w.part.Records, x)
	if e != api.OK {
		return refused("a record", e)
	}
	table, e := producers.Accept(w.part.Producers, c.Producer, c.Seq, offset)
	if e != api.OK {
		return refused("a producer", e)
	}
	w.part.Records, w.part.Producers = l, table
	w.result.Offset = offset
	return nil
}

func (w *work) fetch() error {
	l, e := records.Fetch(w.part.Records, w.command.Offset, w.command.Most)
	if e != api.OK {
		return refused("a fetch", e)
	}
	w.result.Records, w.result.Offset = l, w.command.Offset+uint64(len(l))
	return nil
}

func (w *work) commit() error {
	c := w.command
	l, e := records.Commit(w.part.Consumers, api.Consumer{Name: c.Name, Offset: c.Offset}, uint64(len(w.part.Records)))
	if e != api.OK {
		return refused("a consumer", e)
	}
	table, e := producers.Pass(w.part.Producers, c.Producer, c.Seq)
	if e != api.OK {
		return refused("a producer", e)
	}
	w.part.Consumers, w.part.Producers = l, table
	w.result.Offset = c.Offset
	return nil
}
