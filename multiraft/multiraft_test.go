package multiraft_test

import (
	"fmt"
	"reflect"
	"slices"
	"strings"
	"testing"

	"gazette/api"
	"gazette/beats"
	"gazette/multiraft"
	"gazette/simdisk"
	"gazette/wal"
)

func disk(t *testing.T) *simdisk.Disk {
	t.Helper()
	d, e := simdisk.New(api.MaxRoom)
	if e != api.OK {
		t.Fatal(e)
	}
	return d
}

func host(t *testing.T, id int, d *simdisk.Disk) *multiraft.Host {
	t.Helper()
	h, e := multiraft.New(id, d)
	if e != api.OK {
		t.Fatal(e)
	}
	return h
}

func voters(l ...int) api.Conf { return api.Conf{Voters: l} }

// round plays a round of a host: what it tells, as a text.
func round(t *testing.T, h *multiraft.Host) (string, []api.Packet) {
	t.Helper()
	packets, told, e := h.Round()
	if e != api.OK {
		t.Fatal(e)
	}
	return show(told), packets
}

func show(l []api.Applied) string {
	var s []string
	for _, a := range l {
		kind := ""
		if a.Snapshot {
			kind = "snap "
		}
		s = append(s, fmt.Sprintf("%d: %s%d/%d %s", a.Group, kind, a.Index, a.Term, a.Data))
	}
	return strings.Join(s, ", ")
}

func expect(t *testing.T, got, want string) {
	t.Helper()
	if got != want {
		t.Errorf("%q, not %q", got, want)
	}
}

func ok(t *testing.T, got ...api.Errno) {
	t.Helper()
	for i, e := range got {
		if e != api.OK {
			t.Error(i, e)
		}
	}
}

func TestExamples(t *testing.T) {
	d := disk(t)
	h := host(t, 1, d)
	ok(t, h.Create(5, voters(1), []byte("s")))
	told, packets := round(t, h)
	expect(t, told, "5: snap 1/1 s")
	if len(packets) != 0 {
		t.Error(packets)
	}
	ok(t, h.Tick(1))
	told, _ = round(t, h)
	expect(t, told, "")
	index, term, e := h.Propose(5, []byte("x"))
	told, _ = round(t, h)
	if e != 0 || index != 3 || term != 2 {
		t.Error(index, term, e)
	}
	expect(t, told, "5: 3/2 x")
	if _, _, e := h.Propose(6, []byte("x")); e != api.ErrHostGroup || h.Destroy(6) != 0 || h.Create(6, voters(1), nil) != api.ErrHostGone {
		t.Error(e)
	}
	round(t, h)
	d.Crash(nil)
	h = host(t, 1, d)
	told, _ = round(t, h)
	expect(t, told, "5: snap 1/1 s, 5: 3/2 x")
	if h.Create(6, voters(1), nil) != api.ErrHostGone {
		t.Error("a group that is gone stays so")
	}
}

func TestNewRefuses(t *testing.T) {
	for id, want := range map[int]api.Errno{0: api.ErrArg, 8: api.ErrArg, -1: api.ErrArg, 7: 0} {
		if h, e := multiraft.New(id, disk(t)); e != want || (h == nil) != (e != 0) {
			t.Error(id, e)
		}
	}
	if _, e := multiraft.New(1, nil); e != api.ErrArg {
		t.Error(e)
	}
	spoilt := disk(t)
	spoilt.Append(wal.Name(1), nil)
	spoilt.Append(wal.Name(3), nil)
	if _, e := multiraft.New(1, spoilt); e != api.ErrHostHalt {
		t.Error(e)
	}
	odd := disk(t)
	w, _, _ := wal.Open(odd)
	w.Append([]api.Item{{Kind: api.ItemHard, Group: 1, Hard: api.Hard{Commit: 9}}})
	if _, e := multiraft.New(1, odd); e != api.ErrHostHalt {
		t.Error("a state that may not be", e)
	}
}

func TestGroupsThatAreNone(t *testing.T) {
	h := host(t, 1, disk(t))
	ok(t, h.Destroy(9))
	for group, want := range map[uint64]api.Errno{8: api.ErrHostGroup, 9: api.ErrHostGone} {
		_, _, proposed := h.Propose(group, make([]byte, api.MaxData+1))
		for i, e := range []api.Errno{proposed, h.Change(group, api.Change{}), h.Transfer(group, 2), h.Compact(group, 1, nil)} {
			if e != want {
				t.Error(group, i, e)
			}
		}
		if s, ok := h.Status(group); ok || !reflect.ValueOf(s).IsZero() {
			t.Error(s)
		}
	}
	ok(t, h.Destroy(9))
	if len(h.Groups()) != 0 {
		t.Error(h.Groups())
	}
}

func TestErrorsOfCalls(t *testing.T) {
	h := host(t, 1, disk(t))
	ok(t, h.Create(5, voters(1), nil), h.Create(5, voters(9), make([]byte, api.MaxSeed+1)), h.Create(3, api.Conf{}, make([]byte, api.MaxSeed+1)))
	for i, c := range []struct{ got, want api.Errno }{
		{h.Tick(0), api.ErrArg}, {h.Tick(-1), api.ErrArg}, {h.Receive(api.Packet{From: 2, To: 3, Kind: 1}), api.ErrArg}, {h.Receive(api.Packet{From: 2, To: 1, Kind: 3}), api.ErrArg},
		{h.Receive(api.Packet{From: 2, To: 1, Kind: 1}), api.ErrCodecShort}, {h.Create(6, voters(2, 1), make([]byte, api.MaxSeed+1)), api.ErrArg}, {h.Create(6, voters(9), nil), api.ErrConfNode},
		{h.Create(6, api.Conf{Learners: []int{1}}, nil), api.ErrConfLast}, {h.Create(6, voters(1), make([]byte, api.MaxSeed+1)), api.ErrTooMany}, {h.Create(6, voters(1), make([]byte, api.MaxSeed)), 0},
		{h.Change(5, api.Change{}), api.ErrRaftLeader}, {h.Transfer(5, 1), api.ErrRaftLeader}, {h.Compact(5, 1, nil), api.ErrArg}, {h.Compact(5, 0, nil), api.ErrLogGap}, {h.Compact(5, 0, make([]byte, api.MaxSeed+1)), api.ErrTooMany},
	} {
		if c.got != c.want {
			t.Error(i, c.got, c.want)
		}
	}
	if _, _, e := h.Propose(5, make([]byte, api.MaxData+1)); e != api.ErrTooMany {
		t.Error(e)
	}
	if _, _, e := h.Propose(5, nil); e != api.ErrRaftLeader {
		t.Error(e)
	}
	if !slices.Equal(h.Groups(), []uint64{3, 5, 6}) {
		t.Error(h.Groups())
	}
	ok(t, h.Tick(1))
	if h.Change(5, api.Change{Kind: api.Remove, Node: 1}) != api.ErrConfLast || h.Transfer(5, 1) != api.ErrArg || h.Change(5, api.Change{Kind: api.AddLearner, Node: 2}) != 0 {
		t.Error("a leader's calls")
	}
	if s, live := h.Status(5); !live || s.Role != api.Leader || s.Last != 3 || s.Base != 1 || !slices.Equal(s.Conf.Learners, []int{2}) {
		t.Error(s, live)
	}
	if s, live := h.Status(3); !live || s.Role != api.Follower || s.Last != 0 {
		t.Error(s, live)
	}
}

func TestMaxGroups(t *testing.T) {
	h := host(t, 2, disk(t))
	for g := range uint64(api.MaxGroups) {
		ok(t, h.Create(g, voters(1), nil))
	}
	if h.Create(99, voters(9), nil) != api.ErrTooMany || h.Create(99, api.Conf{}, nil) != api.ErrTooMany || h.Create(1, voters(9), nil) != 0 {
		t.Error("Create")
	}
	append2 := func(group uint64) api.Packet {
		l, _ := beats.Pack(1, []beats.Wire{{Group: group, Msg: api.Msg{Kind: api.MsgAppend, From: 1, To: 2, Term: 3}}})
		return l[0]
	}
	ok(t, h.Receive(append2(99)))
	if _, live := h.Status(99); live {
		t.Error("Receive makes no more groups than there may be")
	}
	ok(t, h.Destroy(7), h.Receive(append2(99)), h.Receive(append2(7)))
	if _, live := h.Status(99); !live || len(h.Groups()) != api.MaxGroups || slices.Contains(h.Groups(), 7) {
		t.Error(h.Groups())
	}
}

func TestReceiveMakesGroups(t *testing.T) {
	d := disk(t)
	h := host(t, 2, d)
	send := func(m api.Msg) api.Packet {
		m.From, m.To = 1, 2
		l, e := beats.Pack(1, []beats.Wire{{Group: 5, Msg: m}})
		if e != 0 {
			t.Fatal(e)
		}
		return l[0]
	}
	ok(t, h.Receive(send(api.Msg{Kind: api.MsgVote, Term: 3})), h.Receive(send(api.Msg{Kind: api.MsgNow, Term: 3})))
	if len(h.Groups()) != 0 {
		t.Error(h.Groups())
	}
	ok(t, h.Receive(send(api.Msg{Kind: api.MsgAppend, Term: 3, Index: 4, LogTerm: 1})))
	told, packets := round(t, h)
	expect(t, told, "")
	if len(packets) != 1 || packets[0].To != 1 {
		t.Error(packets)
	}
	if l, e := beats.Open(packets[0]); e != 0 || l[0].Group != 5 || l[0].Msg.Kind != api.MsgAppended || !l[0].Msg.Reject {
		t.Error(l, e)
	}
	d.Crash(nil)
	h = host(t, 2, d)
	if s, live := h.Status(5); !live || s.Hard.Term != 3 {
		t.Error(s, live)
	}
	whole := api.Msg{Kind: api.MsgChunk, Term: 3, Index: 4, LogTerm: 2, Conf: voters(1), Data: []byte("snap"), Done: true}
	ok(t, h.Receive(send(whole)))
	told, _ = round(t, h)
	expect(t, told, "5: snap 4/2 snap")
	told, _ = round(t, h)
	expect(t, told, "")
	whole.Term, whole.Index = 4, 9
	entries := []api.Entry{{Index: 10, Term: 3, Kind: api.EntryData, Data: []byte("a")}, {Index: 11, Term: 3, Kind: api.EntryEmpty}, {Index: 12, Term: 3, Kind: api.EntryData, Data: []byte("b")}, {Index: 13, Term: 3, Kind: api.EntryData}}
	ok(t, h.Receive(send(whole)), h.Receive(send(api.Msg{Kind: api.MsgAppend, Term: 4, Index: 9, LogTerm: 2, Commit: 12, Entries: entries})))
	told, _ = round(t, h)
	expect(t, told, "5: snap 9/2 snap, 5: 10/3 a, 5: 12/3 b")
	d.Crash(nil)
	h = host(t, 2, d)
	told, _ = round(t, h)
	expect(t, told, "5: snap 9/2 snap, 5: 10/3 a, 5: 12/3 b")
}

func TestNothingIsWrittenWithoutItems(t *testing.T) {
	d := disk(t)
	h := host(t, 1, d)
	round(t, h)
	if len(d.List()) != 0 {
		t.Error(d.List())
	}
	ok(t, h.Create(1, voters(1, 2), nil), h.Create(2, voters(1, 2), nil))
	d.Trip(2)
	round(t, h)
	if d.Down() {
		t.Error("more than an append and a sync")
	}
	used := d.Used()
	ok(t, h.Tick(9))
	round(t, h)
	if d.Used() != used {
		t.Error("a tick that changes nothing is written")
	}
}

func TestHalt(t *testing.T) {
	for done := range 2 {
		d := disk(t)
		h := host(t, 1, d)
		ok(t, h.Create(5, voters(1), nil))
		round(t, h)
		ok(t, h.Tick(1))
		d.Trip(done)
		if packets, told, e := h.Round(); e != api.ErrHostHalt || len(packets)+len(told) != 0 {
			t.Error(packets, told, e)
		}
		_, _, proposed := h.Propose(5, nil)
		_, _, again := h.Round()
		for i, e := range []api.Errno{h.Tick(0), h.Receive(api.Packet{}), proposed, h.Change(9, api.Change{}), h.Transfer(9, 9), h.Create(5, voters(1), nil), h.Destroy(7), h.Compact(5, 99, nil), again} {
			if e != api.ErrHostHalt {
				t.Error(i, e)
			}
		}
		if _, live := h.Status(5); live || len(h.Groups()) != 0 {
			t.Error("a host that has halted tells nothing")
		}
		d.Crash(nil)
		told, _ := round(t, host(t, 1, d))
		expect(t, told, "5: snap 1/1 ")
	}
}

func TestDestroyLetsNothingWait(t *testing.T) {
	d := disk(t)
	h := host(t, 1, d)
	ok(t, h.Create(5, voters(1, 2), []byte("s")), h.Create(6, voters(1, 2), []byte("s")), h.Tick(1), h.Destroy(5))
	told, packets := round(t, h)
	expect(t, told, "6: snap 1/1 s")
	l, e := beats.Open(packets[0])
	if len(packets) != 1 || e != 0 || len(l) != 1 || l[0].Group != 6 {
		t.Error(packets, l)
	}
	_, items, _ := wal.Open(d)
	for _, i := range items {
		if i.Group == 5 && i.Kind != api.ItemGone {
			t.Error(i)
		}
	}
	d.Crash(nil)
	h = host(t, 1, d)
	if h.Create(5, voters(1), nil) != api.ErrHostGone || !slices.Equal(h.Groups(), []uint64{6}) {
		t.Error(h.Groups())
	}
}

func TestCompact(t *testing.T) {
	d := disk(t)
	h := host(t, 1, d)
	ok(t, h.Create(5, voters(1), []byte("s")), h.Tick(1))
	for _, s := range []string{"a", "b", "c"} {
		h.Propose(5, []byte(s))
	}
	if h.Compact(5, 2, nil) != api.ErrArg {
		t.Error("nothing was told so far")
	}
	told, _ := round(t, h)
	expect(t, told, "5: snap 1/1 s, 5: 3/2 a, 5: 4/2 b, 5: 5/2 c")
	h.Propose(5, []byte("d"))
	if h.Compact(5, 6, nil) != api.ErrArg || h.Compact(5, 1, nil) != api.ErrLogGap {
		t.Error("Compact")
	}
	data := []byte("abc")
	ok(t, h.Compact(5, 4, data))
	data[0] = 'z'
	told, _ = round(t, h)
	expect(t, told, "5: 6/2 d")
	if s, _ := h.Status(5); s.Base != 4 || s.Last != 6 {
		t.Error(s)
	}
	d.Crash(nil)
	told, _ = round(t, host(t, 1, d))
	expect(t, told, "5: snap 4/2 abc, 5: 5/2 c, 5: 6/2 d")
}

func TestMemory(t *testing.T) {
	h := host(t, 1, disk(t))
	seed, c, data := []byte("seed"), voters(1), []byte("data")
	ok(t, h.Create(5, c, seed))
	seed[0], c.Voters[0] = 'z', 7
	_, told, _ := h.Round()
	told[0].Data[0] = 'q'
	ok(t, h.Tick(1))
	h.Propose(5, data)
	data[0] = 'z'
	_, told, _ = h.Round()
	if string(told[0].Data) != "data" {
		t.Error(show(told))
	}
	told[0].Data[0] = 'q'
	ok(t, h.Change(5, api.Change{Kind: api.AddLearner, Node: 2}))
	round(t, h)
	answer, _ := beats.Pack(2, []beats.Wire{{Group: 5, Msg: api.Msg{Kind: api.MsgAppended, From: 2, To: 1, Term: 2, Index: 0, Reject: true}}})
	ok(t, h.Receive(answer[0]))
	packets, _, _ := h.Round()
	l, _ := beats.Open(packets[0])
	if string(l[0].Msg.Data) != "seed" || l[0].Msg.Conf.Voters[0] != 1 {
		t.Error(l)
	}
}

// TestSweep: older segments go, and what is needed of them stays.
func TestSweep(t *testing.T) {
	d := disk(t)
	h := host(t, 1, d)
	ok(t, h.Create(1, voters(1), []byte("one")), h.Create(2, api.Conf{}, nil), h.Create(3, voters(2, 3), []byte("three")), h.Destroy(4))
	round(t, h)
	ok(t, h.Tick(1))
	round(t, h)
	for i := range 400 {
		index, _, e := h.Propose(1, make([]byte, 300))
		ok(t, e)
		round(t, h)
		if i%20 == 19 {
			ok(t, h.Compact(1, index, []byte("compacted")))
		}
		if n := len(d.List()); n > 8 {
			t.Fatal("segments", n)
		}
	}
	round(t, h)
	d.Crash(nil)
	h = host(t, 1, d)
	if !slices.Equal(h.Groups(), []uint64{1, 2, 3}) || h.Create(4, voters(1), nil) != api.ErrHostGone {
		t.Error(h.Groups())
	}
	if s, _ := h.Status(1); s.Last != 402 || s.Hard.Commit != 402 || s.Hard.Term != 2 {
		t.Error(s)
	}
	told, _ := round(t, h)
	if !strings.HasPrefix(told, "1: snap 402/2 compacted, 3: snap 1/1 three") {
		t.Error(told)
	}
}

// TestSweepOfMuch: groups that together are more than one batch takes are written anew one by one.
func TestSweepOfMuch(t *testing.T) {
	d := disk(t)
	h := host(t, 1, d)
	for g := range uint64(12) {
		ok(t, h.Create(g, voters(1), make([]byte, api.MaxSeed)))
		round(t, h)
	}
	for range 60 {
		ok(t, h.Tick(1))
		h.Propose(3, make([]byte, 1000))
		round(t, h)
	}
	if n := len(d.List()); n > api.MaxFiles/2 {
		t.Error("segments", n)
	}
	d.Crash(nil)
	h = host(t, 1, d)
	if len(h.Groups()) != 12 {
		t.Error(h.Groups())
	}
	_, told, e := h.Round()
	if e != 0 || len(told[0].Data) != api.MaxSeed {
		t.Error(e)
	}
}
