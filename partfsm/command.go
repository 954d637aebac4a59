package partfsm

import (
	"errors"

	"gazette/api"
	"gazette/copies"
	"gazette/producers"
	"gazette/records"
)

// refusal is a command that is not done, and why.
type refusal struct {
	why    string
	number api.Errno
}

func (r *refusal) Error() string { return r.why + ": " + r.number.Error() }

func (r *refusal) Unwrap() error { return r.number }

// refused is nil, if nothing is wrong.
func refused(why string, number api.Errno) error {
	if number == api.OK {
		return nil
	}
	return &refusal{why, number}
}

// errDone is why a change that came before is not made again: its answer is there already.
var errDone = errors.New("it was done")

// work is a command that is being done to a state.
type work struct {
	part    api.Part
	command api.PartCommand
	result  api.PartResult
}

// Do does a command: the state then, and what it answers.
func Do(p api.Part, c api.PartCommand) (api.Part, api.PartResult) {
	if e := Check(p); e != api.OK {
		return api.Part{}, api.PartResult{Err: e}
	}
	w := &work{part: copies.Part(p), command: c}
	err := w.do()
	var r *refusal
	if !errors.Is(err, errDone) && errors.As(err, &r) {
		return copies.Part(p), api.PartResult{Err: r.number}
	}
	return w.part, w.result
}

func (w *work) do() error {
	if !wellFormed(w.command) {
		return refused("a command that is not well formed", api.ErrPartCommand)
	}
	if w.command.Epoch != w.part.Epoch {
		return refused("another epoch", api.ErrPartEpoch)
	}
	if err := w.mayDo(); err != nil {
		return err
	}
	switch w.command.Kind {
	case api.PartProduce:
		return w.produce()
	case api.PartFetch:
		return w.fetch()
	case api.PartCommit:
		return w.commit()
	case api.PartRead:
		w.result.Offset, w.result.Old = records.Read(w.part.Consumers, w.command.Name)
	case api.PartFreeze:
		w.result.Old = w.part.Frozen != 0
		w.part.Frozen = w.command.Plan
	case api.PartThaw:
		w.result.Old = w.part.Frozen == 0
		w.part.Frozen = 0
	}
	return nil
}

// wellFormed: may a command be, whatever the state?
func wellFormed(c api.PartCommand) bool {
	switch c.Kind {
	case api.PartProduce:
		return isNumbered(c) && len(c.Key) <= api.MaxKey && len(c.Value) <= api.MaxValue
	case api.PartFetch:
		return c.Most >= 1 && c.Most <= api.MaxFetch
	case api.PartCommit:
		if !isNumbered(c) {
			return false
		}
		fallthrough
	case api.PartRead:
		return records.Name(c.Name)
	case api.PartFreeze, api.PartThaw:
		return c.Plan != 0
	}
	return false
}

func isNumbered(c api.PartCommand) bool {
	v, _ := producers.Judge(nil, c.Producer, c.Seq)
	return v != api.SeqBad
}

// mayDo asks what stands in a command's way that it has in common with others: what was done is told first, whether the state is frozen or not.
func (w *work) mayDo() error {
	c := w.command
	frozen := w.part.Frozen != 0
	switch c.Kind {
	case api.PartProduce:
		if err := w.keyLiesWithin(); err != nil {
			return err
		}
		fallthrough
	case api.PartCommit:
		if err := w.isNew(); err != nil {
			return err
		}
		fallthrough
	case api.PartFetch, api.PartRead:
		if frozen {
			return refused("frozen", api.ErrPartFrozen)
		}
	case api.PartFreeze, api.PartThaw:
		if frozen && w.part.Frozen != c.Plan {
			return refused("frozen by another plan", api.ErrPartFrozen)
		}
	}
	return nil
}
