package raftcore

import (
	"math"

	"gazette/api"
	"gazette/raftconf"
	"gazette/raftlog"
	"gazette/raftsnap"
)

func (n *node) message(in api.Input) api.Errno {
	m := in.Msg
	on := n.receiver(m.Kind)
	known := on != nil && m.To == n.ID && isNode(m.From) && m.From != n.ID
	if known && m.Term < endOfNumbers && m.Index < endOfNumbers && m.Commit < endOfNumbers {
		on(m)
	}
	return api.OK
}

// receiver is what a message of a kind comes to; but for those of a pre-vote, which change no term, it is of the node's term then.
func (n *node) receiver(k api.MsgKind) func(api.Msg) {
	switch k {
	case api.MsgPreVote:
		return n.onPreVote
	case api.MsgPreVoted:
		return n.onPreVoted
	case api.MsgVote:
		return n.ofTerm(n.onVote)
	case api.MsgVoted:
		return n.ofTerm(n.onVoted)
	case api.MsgAppend:
		return n.ofTerm(n.onAppend)
	case api.MsgAppended:
		return n.ofTerm(n.onAppended)
	case api.MsgChunk:
		return n.ofTerm(n.onChunk)
	case api.MsgChunked:
		return n.ofTerm(n.onChunked)
	case api.MsgNow:
		return n.ofTerm(n.onNow)
	}
	return nil
}

func (n *node) ofTerm(on func(api.Msg)) func(api.Msg) {
	return func(m api.Msg) {
		if m.Term < n.Hard.Term {
			n.refuseOld(m)
			return
		}
		if m.Term > n.Hard.Term {
			n.becomeFollower(m.Term, 0)
		}
		on(m)
	}
}

// refuseOld tells the sender of a message of a term that has passed what the term is now, if he waits for an answer.
func (n *node) refuseOld(m api.Msg) {
	switch m.Kind {
	case api.MsgVote:
		n.send(m.From, api.Msg{Kind: api.MsgVoted, Reject: true})
	case api.MsgAppend:
		fallthrough
	case api.MsgChunk:
		n.send(m.From, api.Msg{Kind: api.MsgAppended, Reject: true, Index: m.Index, Hint: n.last()})
	}
}

func (n *node) onPreVote(m api.Msg) {
	free := n.Role != api.Leader && (n.Leader == 0 || n.Elapsed >= api.Lease)
	if m.Term > n.Hard.Term && raftlog.Newer(n.Log, m.Index, m.LogTerm) && free {
		n.sendOf(m.Term, m.From, api.Msg{Kind: api.MsgPreVoted})
		return
	}
	n.send(m.From, api.Msg{Kind: api.MsgPreVoted, Reject: true})
}

func (n *node) onPreVoted(m api.Msg) {
	if m.Reject && m.Term > n.Hard.Term {
		n.becomeFollower(m.Term, 0)
	} else if n.Role == api.PreCandidate && (m.Reject || m.Term == n.Hard.Term+1) {
		n.vote(m, n.stand)
	}
}

// vote takes a ballot; won is what is done when that wins.
func (n *node) vote(m api.Msg, won func()) {
	n.Ballots = append(n.Ballots, api.Ballot{Node: m.From, Yes: !m.Reject})
	switch n.tally() {
	case 1:
		won()
	case -1:
		n.becomeFollower(n.Hard.Term, 0)
	}
}

func (n *node) onVote(m api.Msg) {
	free := n.Hard.Vote == 0 || n.Hard.Vote == m.From
	granted := free && raftlog.Newer(n.Log, m.Index, m.LogTerm) && n.Role == api.Follower
	if granted {
		n.Hard.Vote, n.Elapsed = m.From, 0
	}
	n.send(m.From, api.Msg{Kind: api.MsgVoted, Reject: !granted})
}

func (n *node) onVoted(m api.Msg) {
	if n.Role == api.Candidate {
		n.vote(m, n.lead)
	}
}

// hearLeader: a leader of the node's term is there.
func (n *node) hearLeader(id int) {
	n.becomeFollower(n.Hard.Term, id)
	n.Elapsed = 0
}

func (n *node) onAppend(m api.Msg) {
	if n.Role == api.Leader {
		return
	}
	n.hearLeader(m.From)
	if m.Index < n.Hard.Commit {
		n.send(m.From, api.Msg{Kind: api.MsgAppended, Index: n.Hard.Commit})
		return
	}
	if !n.mayTake(m.Entries) {
		return
	}
	log, cut, came, e := raftlog.Merge(n.Log, n.Hard.Commit, m.Index, m.LogTerm, m.Entries)
	switch e {
	case api.ErrLogGap:
		hint := min(n.last(), max(m.Index, 1)-1)
		n.send(m.From, api.Msg{Kind: api.MsgAppended, Reject: true, Index: m.Index, Hint: hint})
	case api.OK:
		n.Log, n.out.Cut, n.out.Entries = log, cut, came
		end := m.Index + uint64(len(m.Entries))
		n.Hard.Commit = max(n.Hard.Commit, min(m.Commit, end))
		n.send(m.From, api.Msg{Kind: api.MsgAppended, Index: end})
	}
}

// mayTake: may a leader of the node's term have sent these entries?
func (n *node) mayTake(l []api.Entry) bool {
	for _, x := range l {
		if x.Term > n.Hard.Term || x.Kind == api.EntryChange && raftconf.Check(x.Conf) != api.OK {
			return false
		}
	}
	return true
}

func (n *node) onAppended(m api.Msg) {
	p, last := n.peer(m.From), n.last()
	if n.Role != api.Leader || p == nil || m.Index > last {
		return
	}
	if m.Reject {
		behind := min(m.Hint, math.MaxUint64-1) + 1
		p.Next = max(min(behind, max(m.Index, 1)), p.Match+1)
		n.sendEntries(*p)
		return
	}
	p.Match = max(p.Match, m.Index)
	p.Next = max(p.Next, p.Match+1)
	commit := n.Hard.Commit
	n.count()
	switch {
	case n.Role != api.Leader:
		return
	case n.Hard.Commit > commit:
		n.sendAll()
	case p.Next <= last:
		n.sendEntries(*p)
	}
	if n.Transfer == m.From && p.Match == last {
		n.send(m.From, api.Msg{Kind: api.MsgNow})
	}
}

func (n *node) onChunk(m api.Msg) {
	if n.Role == api.Leader || raftconf.Check(m.Conf) != api.OK || m.LogTerm > n.Hard.Term {
		return
	}
	n.hearLeader(m.From)
	if m.Index <= n.Hard.Commit {
		n.send(m.From, api.Msg{Kind: api.MsgAppended, Index: n.Hard.Commit})
		return
	}
	var all bool
	n.Part, all = raftsnap.Take(n.Part, m)
	if !all {
		n.send(m.From, api.Msg{Kind: api.MsgChunked, Index: m.Index, Hint: uint64(len(n.Part.Data))})
		return
	}
	n.install(raftsnap.Whole(n.Part, m.Conf))
	n.send(m.From, api.Msg{Kind: api.MsgAppended, Index: m.Index})
}

// install puts a snapshot that has come whole in the log's place; entries behind it stay, if it is of this log.
func (n *node) install(s api.Snap) {
	var left []api.Entry
	if term, ok := raftlog.Term(n.Log, s.Index); ok && term == s.Term {
		left, _ = raftlog.Slice(n.Log, s.Index+1, len(n.Log.Entries))
	} else if len(n.Log.Entries) > 0 {
		n.out.Cut = n.Log.Entries[0].Index
	}
	n.Log = api.Log{Base: s, Entries: left}
	n.Hard.Commit = s.Index
	n.Part = api.Coming{}
	n.out.Install = true
}

func (n *node) onChunked(m api.Msg) {
	p := n.peer(m.From)
	base := n.Log.Base.Index
	if n.Role == api.Leader && p != nil && p.Next <= base && m.Index == base {
		n.sendPiece(m.From, m.Hint)
	}
}

func (n *node) onNow(m api.Msg) {
	if n.Role == api.Follower && raftconf.Votes(n.conf(), n.ID) {
		n.stand()
	}
}
