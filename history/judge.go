package history

import (
	"bytes"
	"slices"

	"gazette/api"
	"gazette/partfsm"
	"gazette/placement"
)

// judge is what is first wrong with a call, as far as those ahead of it and the stories tell.
func (p *past) judge(ahead []api.Did, d api.Did) api.Errno {
	x := p.find(d.Reply)
	switch {
	case !mayBe(d), d.Reply.Index != 0 && (x == nil || !p.isOf(*x, d)):
		return api.ErrHistoryCall
	case x != nil && !answers(*x, d):
		return api.ErrHistoryAnswer
	case answeredTwice(ahead, d), p.changes(d) > 1:
		return api.ErrHistoryTwice
	case !p.standsRight(ahead, d):
		return api.ErrHistoryOrder
	case x != nil && d.Call.Kind == api.CallProduce && d.Reply.Err == api.OK && p.records[key{d.Producer, d.Seq}] != 1:
		return api.ErrHistoryTwice
	}
	return api.OK
}

// mayBe: may a call have begun and ended so?
func mayBe(d api.Did) bool {
	return d.Began >= 1 && d.Ended >= 0 && (d.Ended == 0 || d.Ended >= d.Began) &&
		d.Call.Kind >= api.CallProduce && d.Call.Kind <= api.CallRoute &&
		(d.Ended != 0 || d.Reply.Index == 0)
}

// find is the entry that a reply names; nil: it names none, or none that there is.
func (p *past) find(r api.Reply) *entry {
	if r.Index == 0 {
		return nil
	}
	for i := range p.entries {
		if x := &p.entries[i]; x.Group == r.Group && x.Index == r.Index && x.Term == r.Term {
			return x
		}
	}
	return nil
}

// isOf: is an entry of a call?
func (p *past) isOf(x entry, d api.Did) bool {
	call, c := d.Call, x.part
	numbered := c.Producer == d.Producer && c.Seq == d.Seq
	inTopic := x.Group != 0 && p.births[x.Group].topic == call.Topic
	switch call.Kind {
	case api.CallProduce:
		return inTopic && c.Kind == api.PartProduce && numbered && c.Key == call.Key && bytes.Equal(c.Value, call.Value)
	case api.CallFetch:
		return inTopic && c.Kind == api.PartFetch && c.Offset == call.Offset && c.Most == call.Most
	case api.CallCommit:
		if !numbered || c.Offset != call.Offset {
			return false
		}
		fallthrough
	case api.CallRead:
		return inTopic && int(c.Kind) == int(call.Kind) && c.Name == call.Name
	case api.CallAdmin:
		admin := call.Admin
		admin.Producer, admin.Seq = d.Producer, d.Seq
		same := x.admin.Producer == d.Producer && x.admin.Seq == d.Seq && x.admin.Kind != 0
		return x.Group == 0 && same && bytes.Equal(placement.Command(admin), x.Data)
	}
	return false
}

// answers: is a call's reply what its entry was answered?
func answers(x entry, d api.Did) bool {
	r := d.Reply
	if r.Err != x.err || r.Number != x.number || r.Leader != 0 || len(r.Shards) != 0 {
		return false
	}
	return bytes.Equal(partfsm.Result(r.Result), partfsm.Result(x.result))
}

// answeredTwice: was a call ahead answered by the same entry?
func answeredTwice(ahead []api.Did, d api.Did) bool {
	return d.Reply.Index != 0 && slices.ContainsFunc(ahead, func(o api.Did) bool {
		return o.Reply.Group == d.Reply.Group && o.Reply.Index == d.Reply.Index
	})
}

// changes is how many entries made a call's change.
func (p *past) changes(d api.Did) int {
	count := 0
	switch d.Call.Kind {
	case api.CallProduce, api.CallCommit, api.CallAdmin:
		for _, x := range p.entries {
			if d.Producer != 0 && x.change && p.isOf(x, d) {
				count++
			}
		}
	}
	return count
}

// standsRight: do the entries of a call and of those ahead of it stand as the calls did in time?
func (p *past) standsRight(ahead []api.Did, d api.Did) bool {
	if d.Reply.Index == 0 {
		return true
	}
	for _, o := range ahead {
		if o.Reply.Index != 0 && (p.turned(o, d) || p.turned(d, o)) {
			return false
		}
	}
	return true
}

// turned: had a call ended when another one began, and does its entry not stand ahead of that one's?
func (p *past) turned(ended, other api.Did) bool {
	if ended.Ended == 0 || ended.Ended >= other.Began {
		return false
	}
	a, b := ended.Reply, other.Reply
	return a.Group == b.Group && a.Index >= b.Index || p.isElder(b.Group, a.Group)
}
