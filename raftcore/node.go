package raftcore

import (
	"gazette/api"
	"gazette/copies"
	"gazette/quorum"
	"gazette/raftconf"
	"gazette/raftlog"
	"gazette/raftsnap"
)

// node is a state that takes an input, and what it does by that.
type node struct {
	api.Raft
	out api.Output
}

func (n *node) last() uint64 {
	index, _ := raftlog.Last(n.Log)
	return index
}

func (n *node) conf() api.Conf {
	c, _ := raftlog.Conf(n.Log)
	return c
}

// peer is what the leader knows of a node; nil: it is none of its peers.
func (n *node) peer(id int) *api.Peer {
	for i := range n.Peers {
		if n.Peers[i].Node == id {
			return &n.Peers[i]
		}
	}
	return nil
}

// send sends a message of the node's term.
func (n *node) send(to int, m api.Msg) { n.sendOf(n.Hard.Term, to, m) }

func (n *node) sendOf(term uint64, to int, m api.Msg) {
	m.From, m.To, m.Term = n.ID, to, term
	n.out.Msgs = append(n.out.Msgs, m)
}

func (n *node) becomeFollower(term uint64, leader int) {
	if term > n.Hard.Term {
		n.Hard.Term, n.Hard.Vote = term, 0
	}
	n.Role, n.Leader = api.Follower, leader
	n.Ballots, n.Peers = nil, nil
	n.Beat, n.Transfer = 0, 0
}

// campaign makes the node one that is for itself.
func (n *node) campaign(role api.Role) {
	n.Role, n.Leader, n.Elapsed, n.Transfer = role, 0, 0, 0
	n.Ballots, n.Peers = []api.Ballot{{Node: n.ID, Yes: true}}, nil
}

func (n *node) tally() int { return quorum.Tally(n.conf().Voters, n.Ballots) }

// askVoters sends a request for a vote to all others that have one.
func (n *node) askVoters(kind api.MsgKind, term uint64) {
	index, logTerm := raftlog.Last(n.Log)
	for _, to := range raftconf.Others(api.Conf{Voters: n.conf().Voters}, n.ID) {
		n.sendOf(term, to, api.Msg{Kind: kind, Index: index, LogTerm: logTerm})
	}
}

// ask begins a pre-vote: terms stay as they are till a majority would vote.
func (n *node) ask() {
	n.campaign(api.PreCandidate)
	if n.tally() == 1 {
		n.stand()
		return
	}
	n.askVoters(api.MsgPreVote, n.Hard.Term+1)
}

func (n *node) stand() {
	n.Hard.Term++
	n.Hard.Vote = n.ID
	n.campaign(api.Candidate)
	if n.tally() == 1 {
		n.lead()
		return
	}
	n.askVoters(api.MsgVote, n.Hard.Term)
}

func (n *node) lead() {
	n.Role, n.Leader, n.Ballots = api.Leader, n.ID, nil
	n.Elapsed, n.Beat, n.Transfer = 0, 0, 0
	n.Peers = nil
	n.peersFollow(n.last() + 1)
	n.put(api.Entry{Kind: api.EntryEmpty})
}

// peersFollow makes the peers those of the configuration: new ones are sent what stands from an index on.
func (n *node) peersFollow(next uint64) {
	var peers []api.Peer
	for _, id := range raftconf.Others(n.conf(), n.ID) {
		p := n.peer(id)
		if p == nil {
			p = &api.Peer{Node: id, Next: next}
		}
		peers = append(peers, *p)
	}
	n.Peers = peers
}

// put puts an entry into the leader's log: its index and term.
func (n *node) put(x api.Entry) (uint64, uint64) {
	x.Index, x.Term = n.last()+1, n.Hard.Term
	n.Log.Entries = append(n.Log.Entries, copies.Entry(x))
	n.out.Entries = append(n.out.Entries, copies.Entry(x))
	if x.Kind == api.EntryChange {
		n.peersFollow(x.Index)
	}
	n.count()
	n.sendAll()
	return x.Index, x.Term
}

// count commits what a majority has, if it is of the leader's own term.
func (n *node) count() {
	conf, at := raftlog.Conf(n.Log)
	all := append(copies.List(n.Peers), api.Peer{Node: n.ID, Match: n.last()})
	c := quorum.Commit(conf.Voters, all)
	if term, ok := raftlog.Term(n.Log, c); c <= n.Hard.Commit || !ok || term != n.Hard.Term {
		return
	}
	n.Hard.Commit = c
	if at <= c && !raftconf.Votes(conf, n.ID) {
		n.becomeFollower(n.Hard.Term, 0)
	}
}

func (n *node) sendAll() {
	for _, p := range n.Peers {
		n.sendEntries(p)
	}
}

// sendEntries sends a peer what it has not; or the snapshot, if that has it.
func (n *node) sendEntries(p api.Peer) {
	if p.Next <= n.Log.Base.Index {
		n.sendPiece(p.Node, 0)
		return
	}
	term, _ := raftlog.Term(n.Log, p.Next-1)
	entries, _ := raftlog.Slice(n.Log, p.Next, api.MaxBatch)
	n.send(p.Node, api.Msg{Kind: api.MsgAppend, Index: p.Next - 1, LogTerm: term, Entries: entries, Commit: n.Hard.Commit})
}

func (n *node) sendPiece(to int, from uint64) {
	if m, e := raftsnap.Piece(n.Log.Base, from); e == api.OK {
		n.send(to, m)
	}
}
