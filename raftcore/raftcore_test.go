package raftcore_test

import (
	"fmt"
	"math"
	"reflect"
	"slices"
	"strings"
	"testing"

	"gazette/api"
	"gazette/raftcore"
	"gazette/raftlog"
)

func conf(voters ...int) api.Conf { return api.Conf{Voters: voters} }

// view is one of the term and the entries, whose snapshot has the index 1, the term 1 and the voters.
func view(term uint64, voters []int, terms ...uint64) api.View {
	v := api.View{Hard: api.Hard{Term: term, Commit: 1}, Log: api.Log{Base: api.Snap{Index: 1, Term: 1, Conf: conf(voters...)}}}
	for i, x := range terms {
		v.Log.Entries = append(v.Log.Entries, api.Entry{Index: uint64(i) + 2, Term: x, Kind: api.EntryData, Data: []byte{byte(x)}})
	}
	return v
}

func node(t *testing.T, id int, v api.View) api.Raft {
	t.Helper()
	s, e := raftcore.New(id, v)
	if e != api.OK {
		t.Fatal(e)
	}
	return s
}

// show tells a message by the fields that it has.
func show(m api.Msg) string {
	names := []string{"", "prevote", "prevoted", "vote", "voted", "append", "appended", "chunk", "chunked", "now"}
	s := fmt.Sprintf("%s %d>%d t%d", names[m.Kind], m.From, m.To, m.Term)
	if m.Index+m.LogTerm > 0 {
		s += fmt.Sprintf(" %d/%d", m.Index, m.LogTerm)
	}
	if len(m.Entries) > 0 {
		s += fmt.Sprintf(" +%d", len(m.Entries))
	}
	if m.Commit > 0 {
		s += fmt.Sprintf(" c%d", m.Commit)
	}
	if m.Hint > 0 {
		s += fmt.Sprintf(" h%d", m.Hint)
	}
	if len(m.Data) > 0 {
		s += fmt.Sprintf(" %db", len(m.Data))
	}
	if m.Reject {
		s += " no"
	}
	if m.Done {
		s += " done"
	}
	return s
}

func shown(l []api.Msg) string {
	var s []string
	for _, m := range l {
		s = append(s, show(m))
	}
	return strings.Join(s, ", ")
}

// step takes an input and holds what is sent against what is wanted.
func step(t *testing.T, s api.Raft, in api.Input, want string) (api.Raft, api.Output) {
	t.Helper()
	before := fmt.Sprint(s)
	next, out, e := raftcore.Step(s, in)
	if fmt.Sprint(s) != before {
		t.Error("what was handed in is changed")
	}
	if e != api.OK || shown(out.Msgs) != want {
		t.Errorf("%v %q, not %q", e, shown(out.Msgs), want)
	}
	return next, out
}

func refused(t *testing.T, s api.Raft, in api.Input, want api.Errno) {
	t.Helper()
	next, out, e := raftcore.Step(s, in)
	if e != want || !reflect.DeepEqual(next, s) || !reflect.ValueOf(out).IsZero() {
		t.Error(e, "not", want)
	}
}

func tick(timeout int) api.Input { return api.Input{Kind: api.InTick, Timeout: timeout} }

func msg(m api.Msg) api.Input { return api.Input{Kind: api.InMsg, Msg: m} }

func propose(data string) api.Input { return api.Input{Kind: api.InPropose, Data: []byte(data)} }

func change(kind api.ChangeKind, n int) api.Input {
	return api.Input{Kind: api.InChange, Change: api.Change{Kind: kind, Node: n}}
}

// leader is node 1 of 1, 2, 3, which leads the term 2 with an entry of it at 2.
func leader(t *testing.T) api.Raft {
	t.Helper()
	s := node(t, 1, view(1, []int{1, 2, 3}))
	s, _ = step(t, s, tick(1), "prevote 1>2 t2 1/1, prevote 1>3 t2 1/1")
	s, _ = step(t, s, msg(api.Msg{Kind: api.MsgPreVoted, From: 2, To: 1, Term: 2}), "vote 1>2 t2 1/1, vote 1>3 t2 1/1")
	s, out := step(t, s, msg(api.Msg{Kind: api.MsgVoted, From: 3, To: 1, Term: 2}), "append 1>2 t2 1/1 +1 c1, append 1>3 t2 1/1 +1 c1")
	if s.Role != api.Leader || s.Leader != 1 || len(out.Entries) != 1 || out.Entries[0].Kind != api.EntryEmpty || out.Save {
		t.Fatal(s, out)
	}
	return s
}

// leads is leader, whose entry is committed.
func leads(t *testing.T) api.Raft {
	t.Helper()
	s, out := step(t, leader(t), msg(api.Msg{Kind: api.MsgAppended, From: 2, To: 1, Term: 2, Index: 2}), "append 1>2 t2 2/2 c2, append 1>3 t2 1/1 +1 c2")
	if s.Hard.Commit != 2 || !out.Save {
		t.Fatal(s)
	}
	return s
}

func TestNew(t *testing.T) {
	bad := view(2, []int{1, 2}, 1, 2)
	for i, c := range []struct {
		id   int
		do   func(v *api.View)
		want api.Errno
	}{
		{1, func(v *api.View) {}, 0}, {7, func(v *api.View) {}, 0}, {0, func(v *api.View) {}, api.ErrArg}, {8, func(v *api.View) {}, api.ErrArg},
		{1, func(v *api.View) { v.Gone = true }, api.ErrArg}, {1, func(v *api.View) { v.Log.Entries[0].Index = 9 }, api.ErrArg},
		{1, func(v *api.View) { v.Log.Base.Conf = conf() }, 0}, {1, func(v *api.View) { v.Log.Base.Conf = conf(2, 1) }, api.ErrArg},
		{1, func(v *api.View) { v.Log.Base.Conf = api.Conf{Learners: []int{1}} }, api.ErrArg},
		{1, func(v *api.View) {
			v.Log.Entries[1] = api.Entry{Index: 3, Term: 2, Kind: api.EntryChange, Conf: conf(9)}
		}, api.ErrArg},
		{1, func(v *api.View) {
			v.Log.Entries[1] = api.Entry{Index: 3, Term: 2, Kind: api.EntryChange, Conf: conf(2)}
			v.Log.Base.Conf = conf(9)
		}, api.ErrArg},
		{1, func(v *api.View) { v.Hard.Commit = 0 }, api.ErrArg}, {1, func(v *api.View) { v.Hard.Commit = 3 }, 0}, {1, func(v *api.View) { v.Hard.Commit = 4 }, api.ErrArg},
		{1, func(v *api.View) { v.Hard.Term = 1 }, api.ErrArg}, {1, func(v *api.View) { v.Hard.Term = 1<<61 - 1 }, 0}, {1, func(v *api.View) { v.Hard.Term = 1 << 61 }, api.ErrArg},
		{1, func(v *api.View) {
			v.Log.Entries, v.Log.Base.Index, v.Hard.Commit = nil, 1<<61, 1<<61
		}, api.ErrArg},
		{1, func(v *api.View) { v.Log.Entries, v.Log.Base.Term = nil, 3 }, api.ErrArg},
		{1, func(v *api.View) { v.Hard.Vote = 7 }, 0}, {1, func(v *api.View) { v.Hard.Vote = 8 }, api.ErrArg}, {1, func(v *api.View) { v.Hard.Vote = -1 }, api.ErrArg},
	} {
		v := bad
		v.Log.Entries = slices.Clone(bad.Log.Entries)
		c.do(&v)
		s, e := raftcore.New(c.id, v)
		if e != c.want || e != 0 && !reflect.ValueOf(s).IsZero() {
			t.Error(i, e)
		}
		if e == 0 && (s.Role != api.Follower || s.ID != c.id || s.Leader != 0 || s.Hard != v.Hard || !reflect.DeepEqual(s.Log.Base, v.Log.Base)) {
			t.Error(i, s)
		}
	}
}

func TestStatus(t *testing.T) {
	s := leads(t)
	st := raftcore.Status(s)
	if st.Role != api.Leader || st.Leader != 1 || st.Hard != s.Hard || len(st.Conf.Voters) != 3 || st.Last != 2 || st.Base != 1 {
		t.Error(st)
	}
	st.Conf.Voters[0] = 9
	if s.Log.Base.Conf.Voters[0] != 1 {
		t.Error("Status tells a copy")
	}
}

func TestExamples(t *testing.T) {
	v := api.View{Log: api.Log{Base: api.Snap{Conf: conf(1)}}}
	s, out := step(t, node(t, 1, v), tick(1), "")
	if s.Role != api.Leader || s.Hard != (api.Hard{Term: 1, Vote: 1, Commit: 1}) || len(out.Entries) != 1 || !out.Save || len(s.Log.Entries) != 1 {
		t.Error(s, out)
	}
	v.Log.Base.Conf = conf(1, 2, 3)
	s, out = step(t, node(t, 1, v), tick(1), "prevote 1>2 t1, prevote 1>3 t1")
	if s.Role != api.PreCandidate || s.Hard.Term != 0 || out.Save || !reflect.DeepEqual(s.Ballots, []api.Ballot{{Node: 1, Yes: true}}) {
		t.Error(s, out)
	}
	refused(t, node(t, 1, v), propose("x"), api.ErrRaftLeader)
	refused(t, node(t, 1, v), api.Input{}, api.ErrArg)
	refused(t, node(t, 1, v), api.Input{Kind: 6}, api.ErrArg)
}

func TestTicks(t *testing.T) {
	s := node(t, 2, view(1, []int{1, 2, 3}))
	for range 4 {
		s, _ = step(t, s, tick(5), "")
	}
	s, _ = step(t, s, tick(5), "prevote 2>1 t2 1/1, prevote 2>3 t2 1/1")
	if s.Elapsed != 0 {
		t.Error(s.Elapsed)
	}
	outsider := node(t, 4, view(1, []int{1, 2, 3}))
	for range 5 {
		outsider, _ = step(t, outsider, tick(2), "")
	}
	if outsider.Elapsed != 5 || outsider.Role != api.Follower {
		t.Error(outsider.Elapsed)
	}
	step(t, s, tick(-3), "prevote 2>1 t2 1/1, prevote 2>3 t2 1/1")
	outsider.Elapsed = 1 << 30
	if outsider, _ = step(t, outsider, tick(math.MaxInt), ""); outsider.Elapsed != 1<<30 {
		t.Error(outsider.Elapsed)
	}
	l := leads(t)
	l, _ = step(t, l, tick(9), "")
	l, _ = step(t, l, tick(9), "append 1>2 t2 2/2 c2, append 1>3 t2 1/1 +1 c2")
	if l.Elapsed != 2 || l.Beat != 0 {
		t.Error(l.Elapsed, l.Beat)
	}
	if l, _ = step(t, l, tick(3), ""); l.Elapsed != 0 || l.Role != api.Leader {
		t.Error("a leader's time is over", l.Elapsed)
	}
}

func TestPreVote(t *testing.T) {
	ask := func(term, index, logTerm uint64) api.Input {
		return msg(api.Msg{Kind: api.MsgPreVote, From: 2, To: 1, Term: term, Index: index, LogTerm: logTerm})
	}
	s := node(t, 1, view(5, []int{1, 2, 3}, 2, 3))
	step(t, s, ask(6, 3, 3), "prevoted 1>2 t6")
	step(t, s, ask(9, 2, 4), "prevoted 1>2 t9")
	step(t, s, ask(5, 3, 3), "prevoted 1>2 t5 no")
	step(t, s, ask(6, 2, 3), "prevoted 1>2 t5 no")
	s.Leader = 3
	for range 3 {
		s, _ = step(t, s, tick(9), "")
	}
	step(t, s, ask(6, 3, 3), "prevoted 1>2 t5 no")
	s, _ = step(t, s, tick(9), "")
	s, _ = step(t, s, ask(6, 3, 3), "prevoted 1>2 t6")
	if s.Hard.Term != 5 || s.Hard.Vote != 0 || s.Elapsed != 4 {
		t.Error("a pre-vote changes nothing", s.Hard, s.Elapsed)
	}
	step(t, leads(t), ask(3, 9, 9), "prevoted 1>2 t2 no")
}

func TestPreVoted(t *testing.T) {
	s := node(t, 1, view(1, []int{1, 2, 3}))
	s, _ = step(t, s, tick(1), "prevote 1>2 t2 1/1, prevote 1>3 t2 1/1")
	answer := func(from int, term uint64, reject bool) api.Input {
		return msg(api.Msg{Kind: api.MsgPreVoted, From: from, To: 1, Term: term, Reject: reject})
	}
	a, _ := step(t, s, answer(2, 1, false), "")
	if len(a.Ballots) != 1 {
		t.Error("a grant of another term")
	}
	a, _ = step(t, s, answer(2, 1, true), "")
	if len(a.Ballots) != 2 || a.Role != api.PreCandidate {
		t.Error(a.Ballots)
	}
	if a, _ = step(t, a, answer(3, 0, true), ""); a.Role != api.Follower || a.Hard.Term != 1 || a.Leader != 0 || len(a.Ballots) != 0 {
		t.Error("lost", a)
	}
	if a, _ = step(t, s, answer(2, 7, true), ""); a.Role != api.Follower || a.Hard.Term != 7 {
		t.Error("a higher term", a)
	}
	if a, _ = step(t, s, answer(3, 2, false), "vote 1>2 t2 1/1, vote 1>3 t2 1/1"); a.Role != api.Candidate || a.Hard != (api.Hard{Term: 2, Vote: 1, Commit: 1}) {
		t.Error("won", a)
	}
	if a, _ = step(t, node(t, 1, view(1, []int{1, 2, 3})), answer(3, 2, false), ""); a.Role != api.Follower {
		t.Error("a follower")
	}
}

func TestVote(t *testing.T) {
	ask := func(from int, term, index, logTerm uint64) api.Input {
		return msg(api.Msg{Kind: api.MsgVote, From: from, To: 1, Term: term, Index: index, LogTerm: logTerm})
	}
	s := node(t, 1, view(5, []int{1, 2, 3}, 3))
	s.Elapsed = 3
	step(t, s, ask(2, 4, 9, 9), "voted 1>2 t5 no")
	a, out := step(t, s, ask(2, 5, 2, 3), "voted 1>2 t5")
	if a.Hard.Vote != 2 || a.Elapsed != 0 || !out.Save {
		t.Error(a)
	}
	step(t, a, ask(2, 5, 2, 3), "voted 1>2 t5")
	step(t, a, ask(3, 5, 2, 3), "voted 1>3 t5 no")
	b, _ := step(t, a, ask(3, 6, 2, 3), "voted 1>3 t6")
	if b.Hard.Vote != 3 || b.Hard.Term != 6 {
		t.Error(b.Hard)
	}
	c, out := step(t, s, ask(2, 6, 1, 3), "voted 1>2 t6 no")
	if c.Hard != (api.Hard{Term: 6, Commit: 1}) || c.Elapsed != 3 || !out.Save {
		t.Error(c.Hard, c.Elapsed)
	}
	l, _ := step(t, leads(t), ask(2, 2, 9, 9), "voted 1>2 t2 no")
	if l.Role != api.Leader {
		t.Error(l.Role)
	}
	if l, _ = step(t, l, ask(3, 3, 2, 2), "voted 1>3 t3"); l.Role != api.Follower || len(l.Peers) != 0 {
		t.Error(l)
	}
}

func TestVoted(t *testing.T) {
	s := node(t, 1, view(1, []int{1, 2, 3, 4, 5}))
	s, _ = step(t, s, tick(1), "prevote 1>2 t2 1/1, prevote 1>3 t2 1/1, prevote 1>4 t2 1/1, prevote 1>5 t2 1/1")
	s, _ = step(t, s, msg(api.Msg{Kind: api.MsgPreVoted, From: 2, To: 1, Term: 2}), "")
	s, _ = step(t, s, msg(api.Msg{Kind: api.MsgPreVoted, From: 3, To: 1, Term: 2}), "vote 1>2 t2 1/1, vote 1>3 t2 1/1, vote 1>4 t2 1/1, vote 1>5 t2 1/1")
	voted := func(from int, reject bool) api.Input {
		return msg(api.Msg{Kind: api.MsgVoted, From: from, To: 1, Term: 2, Reject: reject})
	}
	s, _ = step(t, s, voted(2, false), "")
	s, _ = step(t, s, voted(2, false), "")
	s, _ = step(t, s, voted(6, false), "")
	s, _ = step(t, s, voted(3, true), "")
	s, _ = step(t, s, voted(4, true), "")
	if s.Role != api.Candidate {
		t.Error(s)
	}
	if lost, _ := step(t, s, voted(5, true), ""); lost.Role != api.Follower || lost.Hard.Vote != 1 {
		t.Error(lost)
	}
	step(t, s, msg(api.Msg{Kind: api.MsgVoted, From: 5, To: 1, Term: 1}), "")
	won, _ := step(t, s, voted(5, false), "append 1>2 t2 1/1 +1 c1, append 1>3 t2 1/1 +1 c1, append 1>4 t2 1/1 +1 c1, append 1>5 t2 1/1 +1 c1")
	if won.Role != api.Leader || !reflect.DeepEqual(won.Peers[0], api.Peer{Node: 2, Next: 2}) {
		t.Error(won)
	}
}

func TestMessagesThatAreNothing(t *testing.T) {
	s := node(t, 1, view(5, []int{1, 2, 3}))
	for i, m := range []api.Msg{
		{Kind: 0, From: 2, To: 1, Term: 9}, {Kind: 10, From: 2, To: 1, Term: 9}, {Kind: api.MsgVote, From: 2, To: 3, Term: 9}, {Kind: api.MsgVote, From: 1, To: 1, Term: 9},
		{Kind: api.MsgVote, From: 0, To: 1, Term: 9}, {Kind: api.MsgVote, From: 8, To: 1, Term: 9}, {Kind: api.MsgVote, From: 2, To: 1, Term: 1 << 61},
		{Kind: api.MsgVote, From: 2, To: 1, Term: 9, Index: 1 << 61}, {Kind: api.MsgVote, From: 2, To: 1, Term: 9, Commit: 1 << 61},
		{Kind: api.MsgVoted, From: 2, To: 1, Term: 4}, {Kind: api.MsgAppended, From: 2, To: 1, Term: 4}, {Kind: api.MsgNow, From: 2, To: 1, Term: 4}, {Kind: api.MsgChunked, From: 2, To: 1, Term: 4},
	} {
		if next, _ := step(t, s, msg(m), ""); !reflect.DeepEqual(next, s) {
			t.Error(i, next)
		}
	}
}

func TestAppend(t *testing.T) {
	entries := func(from uint64, terms ...uint64) []api.Entry {
		var l []api.Entry
		for i, x := range terms {
			l = append(l, api.Entry{Index: from + uint64(i), Term: x, Kind: api.EntryData})
		}
		return l
	}
	for i, c := range []struct {
		m           api.Msg
		want        string
		last        uint64
		commit, cut uint64
		came        int
		leader      int
	}{
		{api.Msg{Term: 4, Index: 3, LogTerm: 3, Commit: 2}, "appended 2>1 t5 3/0 h4 no", 4, 2, 0, 0, 0},
		{api.Msg{Term: 5, Index: 4, LogTerm: 3, Commit: 9}, "appended 2>1 t5 4/0", 4, 4, 0, 0, 1},
		{api.Msg{Term: 6, Index: 3, LogTerm: 2, Commit: 3}, "appended 2>1 t6 3/0", 4, 3, 0, 0, 1},
		{api.Msg{Term: 5, Index: 4, LogTerm: 3, Entries: entries(5, 5, 5), Commit: 5}, "appended 2>1 t5 6/0", 6, 5, 0, 2, 1},
		{api.Msg{Term: 5, Index: 3, LogTerm: 2, Entries: entries(4, 4)}, "appended 2>1 t5 4/0", 4, 2, 4, 1, 1},
		{api.Msg{Term: 5, Index: 3, LogTerm: 2, Entries: entries(4, 3), Commit: 1}, "appended 2>1 t5 4/0", 4, 2, 0, 0, 1},
		{api.Msg{Term: 5, Index: 1, LogTerm: 1, Entries: entries(2, 9)}, "appended 2>1 t5 2/0", 4, 2, 0, 0, 1},
		{api.Msg{Term: 5, Index: 9, LogTerm: 3}, "appended 2>1 t5 9/0 h4 no", 4, 2, 0, 0, 1},
		{api.Msg{Term: 5, Index: 4, LogTerm: 5}, "appended 2>1 t5 4/0 h3 no", 4, 2, 0, 0, 1},
		{api.Msg{Term: 5, Index: 4, LogTerm: 3, Entries: entries(5, 6)}, "", 4, 2, 0, 0, 1},
		{api.Msg{Term: 5, Index: 4, LogTerm: 3, Entries: entries(6, 5)}, "", 4, 2, 0, 0, 1},
		{api.Msg{Term: 5, Index: 9, LogTerm: 3, Entries: entries(10, 6)}, "", 4, 2, 0, 0, 1},
		{api.Msg{Term: 5, Index: 4, LogTerm: 3, Entries: []api.Entry{{Index: 5, Term: 5, Kind: api.EntryChange}}}, "", 4, 2, 0, 0, 1},
		{api.Msg{Term: 5, Index: 4, LogTerm: 3, Entries: []api.Entry{{Index: 5, Term: 5, Kind: api.EntryChange, Conf: conf(2)}}}, "appended 2>1 t5 5/0", 5, 2, 0, 1, 1},
	} {
		v := view(5, []int{1, 2, 3}, 1, 2, 3)
		v.Hard.Commit = 2
		s := node(t, 2, v)
		s.Role, s.Elapsed, s.Ballots = api.Candidate, 3, []api.Ballot{{Node: 2, Yes: true}}
		c.m.Kind, c.m.From, c.m.To = api.MsgAppend, 1, 2
		next, out := step(t, s, msg(c.m), c.want)
		last, _ := raftlog.Last(next.Log)
		if last != c.last || next.Hard.Commit != c.commit || out.Cut != c.cut || len(out.Entries) != c.came || next.Leader != c.leader {
			t.Error(i, last, next.Hard, out, next.Leader)
		}
		if heard := c.leader != 0; heard != (next.Role == api.Follower && next.Elapsed == 0 && len(next.Ballots) == 0) {
			t.Error(i, next)
		}
	}
	zero := node(t, 2, api.View{})
	step(t, zero, msg(api.Msg{Kind: api.MsgAppend, From: 1, To: 2, Term: 1, Index: 0, LogTerm: 7}), "appended 2>1 t1 no")
	if l, _ := step(t, leads(t), msg(api.Msg{Kind: api.MsgAppend, From: 2, To: 1, Term: 2, Index: 2, LogTerm: 2}), ""); l.Role != api.Leader {
		t.Error("a leader hears no other one of its term")
	}
}

func TestAppended(t *testing.T) {
	s := leads(t)
	for range 10 {
		s, _, _ = raftcore.Step(s, propose("x"))
	}
	ack := func(from int, index uint64, reject bool, hint uint64) api.Input {
		return msg(api.Msg{Kind: api.MsgAppended, From: from, To: 1, Term: 2, Index: index, Reject: reject, Hint: hint})
	}
	step(t, s, ack(3, 13, false, 0), "")
	step(t, s, ack(4, 5, false, 0), "")
	step(t, s, ack(3, 5, true, 3), "append 1>3 t2 3/2 +8 c2")
	step(t, s, ack(3, 3, true, 9), "append 1>3 t2 2/2 +8 c2")
	step(t, s, ack(3, 3, true, math.MaxUint64), "append 1>3 t2 2/2 +8 c2")
	step(t, s, ack(3, 0, true, 9), "chunk 1>3 t2 1/1 done")
	step(t, s, ack(2, 2, true, 0), "append 1>2 t2 2/2 +8 c2")
	a, _ := step(t, s, ack(2, 5, false, 0), "append 1>2 t2 5/2 +7 c5, append 1>3 t2 1/1 +8 c5")
	if a.Hard.Commit != 5 || *peer(a, 2) != (api.Peer{Node: 2, Next: 6, Match: 5}) {
		t.Error(a.Hard, a.Peers)
	}
	b, _ := step(t, a, ack(2, 3, false, 0), "append 1>2 t2 5/2 +7 c5")
	if !reflect.DeepEqual(a, b) {
		t.Error("an old answer changes something")
	}
	c, _ := step(t, a, ack(3, 4, false, 0), "append 1>3 t2 4/2 +8 c5")
	if c.Hard.Commit != 5 {
		t.Error(c.Hard)
	}
	step(t, a, ack(2, 12, false, 0), "append 1>2 t2 12/2 c12, append 1>3 t2 1/1 +8 c12")
}

func peer(s api.Raft, id int) *api.Peer {
	for i, p := range s.Peers {
		if p.Node == id {
			return &s.Peers[i]
		}
	}
	return &api.Peer{}
}

func TestOnlyTheOwnTermIsCounted(t *testing.T) {
	s := node(t, 1, view(3, []int{1, 2, 3}, 2, 2))
	s, _ = step(t, s, tick(1), "prevote 1>2 t4 3/2, prevote 1>3 t4 3/2")
	s, _, _ = raftcore.Step(s, msg(api.Msg{Kind: api.MsgPreVoted, From: 2, To: 1, Term: 4}))
	s, _, _ = raftcore.Step(s, msg(api.Msg{Kind: api.MsgVoted, From: 2, To: 1, Term: 4}))
	s, _ = step(t, s, msg(api.Msg{Kind: api.MsgAppended, From: 2, To: 1, Term: 4, Index: 3}), "append 1>2 t4 3/2 +1 c1")
	if s.Hard.Commit != 1 {
		t.Error("an older term's entry is committed by its number", s.Hard)
	}
	refused(t, s, change(api.AddLearner, 4), api.ErrRaftEarly)
	s, _ = step(t, s, msg(api.Msg{Kind: api.MsgAppended, From: 2, To: 1, Term: 4, Index: 4}), "append 1>2 t4 4/4 c4, append 1>3 t4 3/2 +1 c4")
	if s.Hard.Commit != 4 {
		t.Error(s.Hard)
	}
}

func TestPropose(t *testing.T) {
	data := []byte("x")
	s, out, e := raftcore.Step(leads(t), api.Input{Kind: api.InPropose, Data: data})
	data[0] = 'z'
	if e != 0 || out.Index != 3 || out.Term != 2 || len(out.Entries) != 1 || out.Save || string(out.Entries[0].Data) != "x" || string(s.Log.Entries[1].Data) != "x" {
		t.Error(out, e)
	}
	out.Entries[0].Data[0], out.Msgs[0].Entries[0].Data[0] = 'q', 'q'
	if string(s.Log.Entries[1].Data) != "x" || shown(out.Msgs) != "append 1>2 t2 2/2 +1 c2, append 1>3 t2 1/1 +2 c2" {
		t.Error(shown(out.Msgs))
	}
}

func TestChange(t *testing.T) {
	s := leads(t)
	refused(t, leader(t), change(api.AddLearner, 4), api.ErrRaftEarly)
	refused(t, s, change(api.AddLearner, 2), api.ErrConfThere)
	refused(t, s, change(api.AddLearner, 9), api.ErrConfNode)
	refused(t, s, change(0, 4), api.ErrArg)
	refused(t, s, change(api.Promote, 4), api.ErrConfMissing)
	s, out := step(t, s, change(api.AddLearner, 4), "append 1>2 t2 2/2 +1 c2, append 1>3 t2 1/1 +2 c2, append 1>4 t2 2/2 +1 c2")
	if out.Index != 3 || out.Term != 2 || len(out.Entries) != 1 || out.Entries[0].Kind != api.EntryChange || *peer(s, 4) != (api.Peer{Node: 4, Next: 3}) || peer(s, 2).Match != 2 {
		t.Error(out, s.Peers)
	}
	refused(t, s, change(api.Remove, 4), api.ErrRaftBusy)
	s, _ = step(t, s, msg(api.Msg{Kind: api.MsgAppended, From: 2, To: 1, Term: 2, Index: 3}), "append 1>2 t2 3/2 c3, append 1>3 t2 1/1 +2 c3, append 1>4 t2 2/2 +1 c3")
	refused(t, s, change(api.Promote, 4), api.ErrRaftBehind)
	s, _ = step(t, s, msg(api.Msg{Kind: api.MsgAppended, From: 4, To: 1, Term: 2, Index: 3}), "")
	if s.Hard.Commit != 3 {
		t.Error("a learner counts", s.Hard)
	}
	s, _ = step(t, s, change(api.Promote, 4), "append 1>2 t2 3/2 +1 c3, append 1>3 t2 1/1 +3 c3, append 1>4 t2 3/2 +1 c3")
	if len(raftcore.Status(s).Conf.Voters) != 4 {
		t.Error(raftcore.Status(s))
	}
}

func TestALeaderThatIsRemoved(t *testing.T) {
	s, _ := step(t, leads(t), change(api.Remove, 1), "append 1>2 t2 2/2 +1 c2, append 1>3 t2 1/1 +2 c2")
	s, _ = step(t, s, msg(api.Msg{Kind: api.MsgAppended, From: 2, To: 1, Term: 2, Index: 3}), "")
	if s.Hard.Commit != 2 || s.Role != api.Leader {
		t.Error("its own log counts, though it votes no more", s.Hard)
	}
	s, out := step(t, s, msg(api.Msg{Kind: api.MsgAppended, From: 3, To: 1, Term: 2, Index: 3}), "")
	if s.Role != api.Follower || s.Leader != 0 || s.Hard.Commit != 3 || !out.Save {
		t.Error(s)
	}
	for range 5 {
		s, _ = step(t, s, tick(1), "")
	}
}

func TestTransfer(t *testing.T) {
	to := func(n int) api.Input { return api.Input{Kind: api.InTransfer, To: n} }
	s := leads(t)
	for _, n := range []int{1, 4, 0, -1} {
		refused(t, s, to(n), api.ErrArg)
	}
	refused(t, node(t, 1, view(1, []int{1, 2})), to(2), api.ErrRaftLeader)
	a, _ := step(t, s, to(2), "now 1>2 t2")
	if a.Transfer != 2 || a.Elapsed != 0 {
		t.Error(a)
	}
	for _, in := range []api.Input{to(3), propose("x"), change(api.AddLearner, 4)} {
		refused(t, a, in, api.ErrRaftBusy)
	}
	b, _ := step(t, s, to(3), "append 1>3 t2 1/1 +1 c2")
	b, _ = step(t, b, msg(api.Msg{Kind: api.MsgAppended, From: 3, To: 1, Term: 2, Index: 2}), "now 1>3 t2")
	for range 4 {
		b, _, _ = raftcore.Step(b, tick(4))
	}
	if b.Transfer != 0 {
		t.Error("it is given up in time")
	}
	learner, _, _ := raftcore.Step(s, change(api.AddLearner, 4))
	refused(t, learner, to(4), api.ErrArg)
}

func TestNow(t *testing.T) {
	now := msg(api.Msg{Kind: api.MsgNow, From: 2, To: 1, Term: 5})
	s, _ := step(t, node(t, 1, view(5, []int{1, 2, 3})), now, "vote 1>2 t6 1/1, vote 1>3 t6 1/1")
	if s.Role != api.Candidate {
		t.Error(s)
	}
	step(t, s, msg(api.Msg{Kind: api.MsgNow, From: 2, To: 1, Term: 6}), "")
	step(t, node(t, 1, view(5, []int{2, 3})), now, "")
	if s, _ = step(t, node(t, 1, view(1, []int{1, 2, 3})), now, "vote 1>2 t6 1/1, vote 1>3 t6 1/1"); s.Hard.Term != 6 {
		t.Error(s.Hard)
	}
}

func TestChunks(t *testing.T) {
	s := leads(t)
	for range 3 {
		s, _, _ = raftcore.Step(s, propose("x"))
	}
	s, _, _ = raftcore.Step(s, msg(api.Msg{Kind: api.MsgAppended, From: 2, To: 1, Term: 2, Index: 5}))
	var e api.Errno
	s.Log, e = raftlog.Compact(s.Log, 4, make([]byte, 100))
	if e != 0 {
		t.Fatal(e)
	}
	s, out := step(t, s, msg(api.Msg{Kind: api.MsgAppended, From: 3, To: 1, Term: 2, Index: 1, Reject: true}), "chunk 1>3 t2 4/2 64b")
	f := node(t, 3, view(1, []int{1, 2, 3}))
	f, fout := step(t, f, msg(out.Msgs[0]), "chunked 3>1 t2 4/0 h64")
	step(t, f, msg(out.Msgs[0]), "chunked 3>1 t2 4/0 h64")
	s, out = step(t, s, msg(fout.Msgs[0]), "chunk 1>3 t2 4/2 h64 36b done")
	g, gout := step(t, f, msg(out.Msgs[0]), "appended 3>1 t2 4/0")
	if !gout.Install || gout.Cut != 0 || !gout.Save || g.Hard.Commit != 4 || g.Log.Base.Index != 4 || len(g.Log.Base.Data) != 100 || len(g.Log.Entries) != 0 || len(g.Part.Data) != 0 || g.Leader != 1 {
		t.Error(g, gout)
	}
	step(t, g, msg(out.Msgs[0]), "appended 3>1 t2 4/0")
	step(t, s, msg(gout.Msgs[0]), "append 1>3 t2 4/2 +1 c5")
	step(t, s, msg(api.Msg{Kind: api.MsgChunked, From: 3, To: 1, Term: 2, Index: 4, Hint: 101}), "")
	step(t, s, msg(api.Msg{Kind: api.MsgChunked, From: 3, To: 1, Term: 2, Index: 3, Hint: 64}), "")
	step(t, s, msg(api.Msg{Kind: api.MsgChunked, From: 2, To: 1, Term: 2, Index: 4, Hint: 64}), "")
	step(t, s, msg(api.Msg{Kind: api.MsgChunk, From: 2, To: 1, Term: 2, Index: 9, LogTerm: 2, Conf: conf(1)}), "")
}

func TestChunkThatIsRefused(t *testing.T) {
	good := api.Msg{Kind: api.MsgChunk, From: 1, To: 3, Term: 5, Index: 3, LogTerm: 5, Conf: conf(1, 2, 3), Done: true}
	s := node(t, 3, view(5, []int{1, 2, 3}, 2, 2))
	for i, do := range []func(m *api.Msg){func(m *api.Msg) { m.Conf = conf() }, func(m *api.Msg) { m.Conf = conf(2, 1) }, func(m *api.Msg) { m.LogTerm = 6 }} {
		m := good
		do(&m)
		if next, _ := step(t, s, msg(m), ""); !reflect.DeepEqual(next, s) {
			t.Error(i, next)
		}
	}
	old := good
	old.Term = 4
	step(t, s, msg(old), "appended 3>1 t5 3/0 h3 no")
	next, out := step(t, s, msg(good), "appended 3>1 t5 3/0")
	if out.Cut != 2 || !out.Install || len(next.Log.Entries) != 0 || next.Log.Base.Term != 5 {
		t.Error(out, next.Log)
	}
	same := good
	same.Index, same.LogTerm = 2, 2
	next, out = step(t, s, msg(same), "appended 3>1 t5 2/0")
	if out.Cut != 0 || !out.Install || len(next.Log.Entries) != 1 || next.Hard.Commit != 2 {
		t.Error(out, next.Log)
	}
}
