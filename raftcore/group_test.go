package raftcore_test

import (
	"math/rand"
	"reflect"
	"slices"
	"testing"

	"gazette/api"
	"gazette/raftconf"
	"gazette/raftcore"
	"gazette/raftlog"
)

// group is nodes that step by raftcore, messages that are under way, and what was seen of them so far.
type group struct {
	t         *testing.T
	random    *rand.Rand
	nodes     map[int]api.Raft
	kept      map[int]api.View
	bag       []api.Msg
	leaders   map[uint64]int       // by terms
	committed map[uint64]api.Entry // by indexes
	changes   bool
}

func newGroup(t *testing.T, random *rand.Rand, size int) *group {
	g := &group{t: t, random: random, nodes: map[int]api.Raft{}, kept: map[int]api.View{}, leaders: map[uint64]int{}, committed: map[uint64]api.Entry{}}
	var voters []int
	for id := 1; id <= size; id++ {
		voters = append(voters, id)
	}
	for id := 1; id <= api.MaxNodes; id++ {
		v := api.View{}
		if id <= size {
			v = view(1, voters)
		}
		g.kept[id], g.nodes[id] = v, node(t, id, v)
	}
	return g
}

// keep does to a view what an output says: it must come to be the state's own.
func keep(v api.View, s api.Raft, out api.Output) api.View {
	if out.Cut > 0 {
		v.Log.Entries = slices.DeleteFunc(slices.Clone(v.Log.Entries), func(x api.Entry) bool { return x.Index >= out.Cut })
	}
	if out.Install {
		v.Log.Entries = slices.DeleteFunc(slices.Clone(v.Log.Entries), func(x api.Entry) bool { return x.Index <= s.Log.Base.Index })
		v.Log.Base = s.Log.Base
	}
	v.Log.Entries = append(slices.Clone(v.Log.Entries), out.Entries...)
	if out.Save {
		v.Hard = s.Hard
	}
	return v
}

func (g *group) give(id int, in api.Input) api.Errno {
	before := g.nodes[id]
	s, out, e := raftcore.Step(before, in)
	if e != api.OK {
		return e
	}
	v := keep(g.kept[id], s, out)
	if v.Hard != s.Hard || !sameLog(v.Log, s.Log) {
		g.t.Fatalf("what is told to be kept is not the state: %v %v", v, s)
	}
	g.nodes[id], g.kept[id] = s, v
	g.bag = append(g.bag, out.Msgs...)
	g.look(before, s)
	return e
}

func sameLog(a, b api.Log) bool {
	return reflect.DeepEqual(a.Base, b.Base) && slices.EqualFunc(a.Entries, b.Entries, func(x, y api.Entry) bool { return reflect.DeepEqual(x, y) })
}

// look holds a step against P10.1, P10.2 and P10.4.
func (g *group) look(before, s api.Raft) {
	last, term := raftlog.Last(s.Log)
	h, b := s.Hard, before.Hard
	if !raftlog.Check(s.Log) || h.Commit < s.Log.Base.Index || h.Commit > last || term > h.Term || h.Term < b.Term || h.Commit < b.Commit || h.Term == b.Term && b.Vote != 0 && h.Vote != b.Vote {
		g.t.Fatalf("not sound: %v behind %v", s, before)
	}
	if s.Role == api.Leader {
		if other := g.leaders[h.Term]; other != 0 && other != s.ID {
			g.t.Fatal("two leaders of the term", h.Term, other, s.ID)
		}
		g.leaders[h.Term] = s.ID
	}
	for _, x := range s.Log.Entries {
		if x.Index > h.Commit {
			break
		}
		if y, ok := g.committed[x.Index]; ok && !reflect.DeepEqual(x, y) {
			g.t.Fatal("committed otherwise", x, y)
		}
		g.committed[x.Index] = x
	}
}

// match is P10.3.
func (g *group) match() {
	for _, a := range g.nodes {
		for _, b := range g.nodes {
			last, _ := raftlog.Last(a.Log)
			equal := false
			for i := last; i > max(a.Log.Base.Index, b.Log.Base.Index); i-- {
				x, _ := raftlog.Slice(a.Log, i, 1)
				y, e := raftlog.Slice(b.Log, i, 1)
				equal = equal || e == api.OK && len(y) == 1 && x[0].Term == y[0].Term
				if equal && !reflect.DeepEqual(x, y) {
					g.t.Fatal("they do not match", a.ID, b.ID, i)
				}
			}
		}
	}
}

func (g *group) crash(id int) {
	s, e := raftcore.New(id, g.kept[id])
	if e != api.OK {
		g.t.Fatal("what was kept is refused", e, g.kept[id])
	}
	g.nodes[id] = s
}

func (g *group) compact(id int) {
	s := g.nodes[id]
	index := s.Log.Base.Index + uint64(g.random.Intn(int(s.Hard.Commit-s.Log.Base.Index)+1))
	if l, e := raftlog.Compact(s.Log, index, make([]byte, g.random.Intn(100))); e == api.OK {
		s.Log = l
		g.nodes[id] = s
		v := g.kept[id]
		v.Log = l
		g.kept[id] = v
	}
}

func (g *group) deliver(at int) {
	m := g.bag[at]
	g.bag = slices.Delete(g.bag, at, at+1)
	g.give(m.To, api.Input{Kind: api.InMsg, Msg: m})
}

// play does a step of any kind.
func (g *group) play() {
	id := 1 + g.random.Intn(api.MaxNodes)
	switch n := g.random.Intn(100); {
	case n < 25:
		g.give(id, tick(1+g.random.Intn(9)))
	case n < 80:
		if len(g.bag) == 0 {
			return
		}
		at := g.random.Intn(len(g.bag))
		switch g.random.Intn(10) {
		case 0:
			g.bag = slices.Delete(g.bag, at, at+1)
		case 1:
			g.bag = append(g.bag, g.bag[at])
		case 2, 3:
			g.deliver(at)
		default:
			g.deliver(0)
		}
	case n < 90:
		g.give(id, propose("some data"))
	case n < 92:
		g.crash(id)
	case n < 94:
		g.compact(id)
	case n < 96:
		g.give(id, api.Input{Kind: api.InTransfer, To: 1 + g.random.Intn(api.MaxNodes)})
	case g.changes:
		g.give(id, change(api.ChangeKind(1+g.random.Intn(3)), 1+g.random.Intn(api.MaxNodes)))
	}
}

// TestWhateverIsLost plays P10.1 to P10.4.
func TestWhateverIsLost(t *testing.T) {
	for seed := range int64(60) {
		g := newGroup(t, rand.New(rand.NewSource(seed)), 3+int(seed)%3)
		g.changes = seed%2 == 0
		for i := range 1500 {
			g.play()
			if i%100 == 0 {
				g.match()
			}
		}
		g.match()
		if len(g.committed) < 3 {
			t.Log("little was committed by the seed", seed, len(g.committed))
		}
	}
}

// round is one of P10.5.
func (g *group) round(nodes []int) {
	for _, id := range nodes {
		g.give(id, tick(5+5*id))
	}
	for len(g.bag) > 0 {
		g.deliver(0)
	}
}

func (g *group) leader(nodes []int) int {
	for _, id := range nodes {
		if s := g.nodes[id]; s.Role == api.Leader && s.Hard.Commit > 0 {
			if term, _ := raftlog.Term(s.Log, s.Hard.Commit); term == s.Hard.Term {
				return id
			}
		}
	}
	return 0
}

// until plays rounds till something is so.
func (g *group) until(nodes []int, rounds int, what string, so func() bool) {
	g.t.Helper()
	for range rounds {
		if so() {
			return
		}
		g.round(nodes)
	}
	if !so() {
		g.t.Fatal("within so many rounds it was not so:", what)
	}
}

// TestInTheCalm plays P10.5.
func TestInTheCalm(t *testing.T) {
	for seed := range int64(40) {
		random := rand.New(rand.NewSource(seed))
		size := 1 + int(seed)%5
		g := newGroup(t, random, size)
		all := []int{1, 2, 3, 4, 5, 6, 7}
		for range 300 {
			g.play()
		}
		voters := all[:size]
		g.until(all, 200, "a leader", func() bool { return g.leader(voters) != 0 })
		l := g.leader(voters)
		_, out, e := raftcore.Step(g.nodes[l], propose("calm"))
		if e == api.ErrRaftBusy {
			g.until(all, 60, "a transfer ends", func() bool { return g.leader(voters) != 0 && g.nodes[g.leader(voters)].Transfer == 0 })
			l = g.leader(voters)
			_, out, e = raftcore.Step(g.nodes[l], propose("calm"))
		}
		if e != api.OK || g.give(l, propose("calm")) != api.OK {
			t.Fatal(e)
		}
		g.until(all, 200, "all have it", func() bool {
			return !slices.ContainsFunc(voters, func(id int) bool { return g.nodes[id].Hard.Commit < out.Index })
		})
		to := voters[random.Intn(size)]
		if to != l {
			if e := g.give(l, api.Input{Kind: api.InTransfer, To: to}); e != api.OK {
				t.Fatal(e)
			}
			g.until(all, 60, "it leads", func() bool { return g.leader(voters) == to })
		}
		g.walk(all, random)
	}
}

// walk goes a path of changes from the configuration to another one.
func (g *group) walk(all []int, random *rand.Rand) {
	g.t.Helper()
	target := api.Conf{}
	for _, id := range all {
		switch random.Intn(3) {
		case 0:
			target.Voters = append(target.Voters, id)
		case 1:
			target.Learners = append(target.Learners, id)
		}
	}
	if len(target.Voters) == 0 {
		target = conf(7)
	}
	from := raftcore.Status(g.nodes[g.leader(all)]).Conf
	path, e := raftconf.Path(from, target)
	if e != api.OK {
		g.t.Fatal(e)
	}
	for _, x := range path {
		g.until(all, 400, "a change may be proposed", func() bool {
			l := g.leader(all)
			return l != 0 && g.give(l, api.Input{Kind: api.InChange, Change: x}) == api.OK
		})
		for range 3 {
			g.round(all)
		}
	}
	g.until(all, 200, "the path is gone", func() bool {
		l := g.leader(target.Voters)
		return l != 0 && reflect.DeepEqual(raftcore.Status(g.nodes[l]).Conf, target)
	})
}

// TestAnyState plays P1: whatever a state and an input are, a step ends.
func TestAnyState(t *testing.T) {
	random := rand.New(rand.NewSource(7))
	number := func() uint64 {
		return []uint64{0, 1, 2, 3, 4, 1 << 61, 1<<64 - 1}[random.Intn(7)]
	}
	nodes := func() []int {
		var l []int
		for range random.Intn(4) {
			l = append(l, random.Intn(10)-1)
		}
		return l
	}
	for range 60000 {
		s := api.Raft{ID: random.Intn(4), Hard: api.Hard{Term: number(), Vote: random.Intn(4), Commit: number()}, Role: api.Role(random.Intn(6)), Leader: random.Intn(4), Transfer: random.Intn(3), Elapsed: []int{0, 3, -9, 1 << 62, 1<<63 - 1}[random.Intn(5)], Beat: random.Intn(3)}
		s.Log.Base = api.Snap{Index: number(), Term: number(), Conf: api.Conf{Voters: nodes(), Learners: nodes()}}
		for range random.Intn(4) {
			s.Log.Entries = append(s.Log.Entries, api.Entry{Index: number(), Term: number(), Kind: api.EntryKind(random.Intn(5)), Conf: api.Conf{Voters: nodes()}})
		}
		for _, n := range nodes() {
			s.Peers = append(s.Peers, api.Peer{Node: n, Next: number(), Match: number()})
			s.Ballots = append(s.Ballots, api.Ballot{Node: n, Yes: random.Intn(2) == 0})
		}
		m := api.Msg{Kind: api.MsgKind(random.Intn(11)), From: random.Intn(4), To: s.ID, Term: number(), Index: number(), LogTerm: number(), Commit: number(), Hint: number(), Reject: random.Intn(2) == 0, Done: random.Intn(2) == 0, Conf: api.Conf{Voters: nodes()}}
		if random.Intn(2) == 0 {
			m.Entries = s.Log.Entries
		}
		raftcore.Step(s, api.Input{Kind: api.InputKind(random.Intn(7)), Timeout: random.Intn(4) - 1, Msg: m, Change: api.Change{Kind: api.ChangeKind(random.Intn(5)), Node: random.Intn(9)}, To: random.Intn(5)})
		raftcore.Status(s)
		raftcore.New(s.ID, api.View{Hard: s.Hard, Log: s.Log})
	}
}
