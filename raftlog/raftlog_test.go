package raftlog_test

import (
	"fmt"
	"math"
	"math/rand"
	"reflect"
	"strings"
	"testing"

	"gazette/api"
	"gazette/raftlog"
)

func entry(index, term uint64) api.Entry {
	return api.Entry{Index: index, Term: term, Kind: api.EntryData, Data: []byte{byte(index), byte(term)}}
}

func change(index, term uint64, voters ...int) api.Entry {
	return api.Entry{Index: index, Term: term, Kind: api.EntryChange, Conf: api.Conf{Voters: voters}}
}

// example is the chapter's: a snapshot of 2, the entries 3 and 4.
func example() api.Log {
	return api.Log{Base: api.Snap{Index: 2, Term: 1, Conf: api.Conf{Voters: []int{1}}, Data: []byte("b")}, Entries: []api.Entry{entry(3, 1), entry(4, 2)}}
}

func look(l api.Log) string {
	s := []string{fmt.Sprintf("base %d/%d", l.Base.Index, l.Base.Term)}
	for _, e := range l.Entries {
		s = append(s, fmt.Sprintf("%d/%d", e.Index, e.Term))
	}
	return strings.Join(s, " ")
}

func TestCheck(t *testing.T) {
	for i, c := range []struct {
		l    api.Log
		want bool
	}{
		{api.Log{}, true}, {example(), true},
		{api.Log{Entries: []api.Entry{entry(2, 1)}}, false}, {api.Log{Entries: []api.Entry{entry(0, 1)}}, false},
		{api.Log{Entries: []api.Entry{entry(1, 1), entry(3, 1)}}, false}, {api.Log{Entries: []api.Entry{entry(1, 2), entry(2, 1)}}, false},
		{api.Log{Base: api.Snap{Index: 1, Term: 2}, Entries: []api.Entry{entry(2, 1)}}, false},
		{api.Log{Entries: []api.Entry{{Index: 1, Kind: 0}}}, false}, {api.Log{Entries: []api.Entry{{Index: 1, Kind: 4}}}, false},
		{api.Log{Entries: []api.Entry{{Index: 1, Kind: api.EntryEmpty, Data: []byte("x")}}}, false},
		{api.Log{Entries: []api.Entry{{Index: 1, Kind: api.EntryChange, Data: []byte("x")}}}, false},
		{api.Log{Entries: []api.Entry{{Index: 1, Kind: api.EntryEmpty, Conf: api.Conf{Learners: []int{1}}}}}, false},
		{api.Log{Entries: []api.Entry{{Index: 1, Kind: api.EntryData, Conf: api.Conf{Voters: []int{1}}}}}, false},
		{api.Log{Entries: []api.Entry{{Index: 1, Kind: api.EntryData}, {Index: 2, Kind: api.EntryEmpty}, change(3, 0, 1)}}, true},
		{api.Log{Base: api.Snap{Index: 1<<62 - 1}}, true}, {api.Log{Base: api.Snap{Index: 1 << 62}}, false}, {api.Log{Base: api.Snap{Index: math.MaxUint64}}, false},
		{api.Log{Base: api.Snap{Index: 1<<62 - 2}, Entries: []api.Entry{entry(1<<62-1, 1)}}, true},
		{api.Log{Base: api.Snap{Index: 1<<62 - 1}, Entries: []api.Entry{entry(1<<62, 1)}}, false},
		{api.Log{Base: api.Snap{Index: math.MaxUint64}, Entries: []api.Entry{entry(0, 1)}}, false},
	} {
		if got := raftlog.Check(c.l); got != c.want {
			t.Error(i, got)
		}
	}
}

func TestLastTermNewer(t *testing.T) {
	l := example()
	if i, term := raftlog.Last(l); i != 4 || term != 2 {
		t.Error(i, term)
	}
	if i, term := raftlog.Last(api.Log{Base: l.Base}); i != 2 || term != 1 {
		t.Error(i, term)
	}
	for index, want := range map[uint64]uint64{2: 1, 3: 1, 4: 2} {
		if term, ok := raftlog.Term(l, index); term != want || !ok {
			t.Error(index, term, ok)
		}
	}
	for _, index := range []uint64{0, 1, 5, math.MaxUint64} {
		if term, ok := raftlog.Term(l, index); term != 0 || ok {
			t.Error(index, term, ok)
		}
	}
	if term, ok := raftlog.Term(api.Log{}, 0); term != 0 || !ok {
		t.Error("the snapshot's own index", term, ok)
	}
	for _, c := range []struct {
		index, term uint64
		want        bool
	}{{4, 2, true}, {9, 1, false}, {3, 3, true}, {3, 2, false}, {5, 2, true}, {0, 3, true}} {
		if raftlog.Newer(l, c.index, c.term) != c.want {
			t.Error(c)
		}
	}
}

func TestSlice(t *testing.T) {
	l := example()
	for i, c := range []struct {
		from uint64
		most int
		want string
		e    api.Errno
	}{
		{2, 9, "", api.ErrLogGap}, {0, 9, "", api.ErrLogGap}, {6, 9, "", api.ErrLogGap}, {math.MaxUint64, 9, "", api.ErrLogGap},
		{3, 9, "3/1 4/2", 0}, {3, 1, "3/1", 0}, {3, 0, "", 0}, {3, -1, "", 0}, {4, math.MaxInt, "4/2", 0}, {5, 9, "", 0}, {3, math.MinInt, "", 0},
	} {
		s, e := raftlog.Slice(l, c.from, c.most)
		if got := strings.TrimPrefix(strings.TrimPrefix(look(api.Log{Entries: s}), "base 0/0"), " "); got != c.want || e != c.e {
			t.Error(i, got, e)
		}
	}
	s, _ := raftlog.Slice(l, 3, 1)
	s[0].Data[0] = 99
	_ = append(s, entry(9, 9))
	if !reflect.DeepEqual(l, example()) {
		t.Error("entries go out as copies")
	}
}

func TestMerge(t *testing.T) {
	for i, c := range []struct {
		commit, index, term uint64
		more                []api.Entry
		want                string
		cut                 uint64
		came                int
		e                   api.Errno
	}{
		{2, 3, 1, []api.Entry{entry(4, 3)}, "base 2/1 3/1 4/3", 4, 1, 0},
		{4, 3, 1, []api.Entry{entry(4, 3)}, "", 0, 0, api.ErrLogHeld},
		{4, 2, 1, []api.Entry{entry(3, 1)}, "base 2/1 3/1 4/2", 0, 0, 0},
		{0, 4, 2, nil, "base 2/1 3/1 4/2", 0, 0, 0},
		{0, 2, 1, nil, "base 2/1 3/1 4/2", 0, 0, 0},
		{9, 4, 2, []api.Entry{entry(5, 2), entry(6, 4)}, "base 2/1 3/1 4/2 5/2 6/4", 0, 2, 0},
		{3, 2, 1, []api.Entry{entry(3, 1), entry(4, 2), entry(5, 2)}, "base 2/1 3/1 4/2 5/2", 0, 1, 0},
		{2, 2, 1, []api.Entry{entry(3, 2)}, "base 2/1 3/2", 3, 1, 0},
		{3, 2, 1, []api.Entry{entry(3, 2)}, "", 0, 0, api.ErrLogHeld},
		{3, 2, 1, []api.Entry{entry(3, 1), entry(4, 3), entry(5, 3)}, "base 2/1 3/1 4/3 5/3", 4, 2, 0},
		{0, 1, 1, nil, "", 0, 0, api.ErrLogGap}, {0, 5, 2, nil, "", 0, 0, api.ErrLogGap}, {0, 3, 2, nil, "", 0, 0, api.ErrLogGap},
		{0, 3, 1, []api.Entry{entry(5, 2)}, "", 0, 0, api.ErrArg}, {0, 3, 1, []api.Entry{entry(3, 2)}, "", 0, 0, api.ErrArg},
		{0, 3, 1, []api.Entry{entry(4, 3), entry(5, 2)}, "", 0, 0, api.ErrArg}, {0, 4, 2, []api.Entry{entry(5, 1)}, "", 0, 0, api.ErrArg},
		{0, 9, 2, []api.Entry{entry(10, 1)}, "", 0, 0, api.ErrArg}, {0, 3, 1, []api.Entry{{Index: 4, Term: 2}}, "", 0, 0, api.ErrArg},
		{0, 3, 1, []api.Entry{{Index: 4, Term: 2, Kind: api.EntryEmpty, Data: []byte("x")}}, "", 0, 0, api.ErrArg},
		{0, 1 << 62, 1, nil, "", 0, 0, api.ErrArg}, {0, 1<<62 - 1, 1, nil, "", 0, 0, api.ErrLogGap},
		{0, 1<<62 - 1, 1, []api.Entry{entry(1<<62, 1)}, "", 0, 0, api.ErrArg}, {0, math.MaxUint64, 1, []api.Entry{entry(0, 1)}, "", 0, 0, api.ErrArg},
	} {
		l := example()
		got, cut, came, e := raftlog.Merge(l, c.commit, c.index, c.term, c.more)
		if e != c.e || cut != c.cut || len(came) != c.came || e == 0 && look(got) != c.want || e != 0 && !reflect.ValueOf(got).IsZero() {
			t.Error(i, look(got), cut, came, e)
		}
		if !reflect.DeepEqual(l, example()) || e == 0 && !raftlog.Check(got) {
			t.Error(i, "the log that was handed in, or that came out")
		}
	}
}

func TestMergeMemory(t *testing.T) {
	l, more := example(), []api.Entry{change(4, 3, 1, 2), entry(5, 3)}
	got, _, came, _ := raftlog.Merge(l, 0, 3, 1, more)
	more[0].Conf.Voters[0], more[1].Data[0] = 9, 9
	came[0].Conf.Voters[1], came[1].Data[1] = 8, 8
	l.Base.Data[0], l.Entries[0].Data[0] = 'z', 9
	if got.Entries[1].Conf.Voters[0] != 1 || got.Entries[1].Conf.Voters[1] != 2 || got.Entries[2].Data[0] != 5 || got.Entries[2].Data[1] != 3 || got.Base.Data[0] != 'b' || got.Entries[0].Data[0] != 3 {
		t.Error(got)
	}
	for i := range got.Entries {
		_ = append(got.Entries[i].Data, 77)
	}
	if got.Entries[2].Data[0] != 5 {
		t.Error("spare room of one is another one's")
	}
}

func TestCompact(t *testing.T) {
	l := example()
	for _, index := range []uint64{0, 2, 5, math.MaxUint64} {
		if got, e := raftlog.Compact(l, index, nil); e != api.ErrLogGap || !reflect.ValueOf(got).IsZero() {
			t.Error(index, got, e)
		}
	}
	data := []byte("new")
	got, e := raftlog.Compact(l, 3, data)
	data[0] = 'z'
	if look(got) != "base 3/1 4/2" || e != api.OK || string(got.Base.Data) != "new" || !reflect.DeepEqual(got.Base.Conf, l.Base.Conf) {
		t.Error(got, e)
	}
	l.Entries = []api.Entry{change(3, 1, 1, 2), entry(4, 1), change(5, 2, 2)}
	for index, want := range map[uint64]int{3: 2, 4: 2, 5: 1} {
		got, e := raftlog.Compact(l, index, nil)
		if e != api.OK || len(got.Base.Conf.Voters) != want || len(got.Entries) != int(5-index) || !raftlog.Check(got) {
			t.Error(index, got, e)
		}
	}
}

func TestConf(t *testing.T) {
	l := example()
	if c, i := raftlog.Conf(l); len(c.Voters) != 1 || i != 0 {
		t.Error(c, i)
	}
	l.Entries = append(l.Entries, change(5, 2, 1, 2), entry(6, 2), change(7, 2, 3, 4, 5), entry(8, 2))
	c, i := raftlog.Conf(l)
	if len(c.Voters) != 3 || i != 7 {
		t.Error(c, i)
	}
	c.Voters[0] = 9
	if l.Entries[4].Conf.Voters[0] != 3 {
		t.Error("the configuration is a copy")
	}
}

// randomLog is a log that is right, made by Merge.
func randomLog(random *rand.Rand, l api.Log) api.Log {
	for range random.Intn(9) {
		last, term := raftlog.Last(l)
		index := last - uint64(random.Intn(int(last-l.Base.Index)+1))
		ahead, _ := raftlog.Term(l, index)
		var more []api.Entry
		for i := range random.Intn(4) {
			ahead = max(ahead, term) + uint64(random.Intn(3)/2)
			x := entry(index+uint64(i)+1, ahead)
			if random.Intn(3) == 0 {
				x = change(x.Index, ahead, 1+random.Intn(3))
			}
			more = append(more, x)
		}
		t, _ := raftlog.Term(l, index)
		if merged, _, _, e := raftlog.Merge(l, 0, index, t, more); e == api.OK {
			l = merged
		}
	}
	return l
}

// TestPromises plays P6.1 to P6.3.
func TestPromises(t *testing.T) {
	random := rand.New(rand.NewSource(1))
	for range 3000 {
		l := randomLog(random, api.Log{})
		if !raftlog.Check(l) {
			t.Fatal(l)
		}
		last, term := raftlog.Last(l)
		if last == 0 {
			continue
		}
		index := 1 + uint64(random.Intn(int(last)))
		c, e := raftlog.Compact(l, index, []byte("x"))
		if e != api.OK || !raftlog.Check(c) {
			t.Fatal(l, index, e)
		}
		cl, ct := raftlog.Last(c)
		conf, _ := raftlog.Conf(l)
		after, _ := raftlog.Conf(c)
		if cl != last || ct != term || !reflect.DeepEqual(conf, after) {
			t.Fatal("Compact changes", look(l), look(c))
		}
		for i := index; i <= last; i++ {
			a, _ := raftlog.Term(l, i)
			if b, ok := raftlog.Term(c, i); !ok || a != b {
				t.Fatal("Compact changes a term", look(l), look(c))
			}
		}
		from := index + 1
		slice, e := raftlog.Slice(l, from, random.Intn(5))
		ahead, _ := raftlog.Term(l, index)
		other := api.Log{Base: api.Snap{Index: index, Term: ahead}}
		other, _, _, me := raftlog.Merge(other, 0, index, ahead, []api.Entry{entry(index+1, ahead+9)})
		merged, _, _, last1 := raftlog.Merge(other, 0, index, ahead, slice)
		if e != api.OK || me != api.OK || last1 != api.OK || !raftlog.Check(merged) {
			t.Fatal(e, me, last1)
		}
		for _, x := range slice {
			if a, ok := raftlog.Term(merged, x.Index); !ok || a != x.Term {
				t.Fatal("they do not match", look(l), look(merged))
			}
		}
	}
}

// TestTheyMatch plays P6.2: logs made of one log's entries that have an entry of one index and term are the same up to it.
func TestTheyMatch(t *testing.T) {
	random := rand.New(rand.NewSource(2))
	for range 500 {
		versions := []api.Log{{}}
		for term := uint64(1); term < 5; term++ {
			l := versions[random.Intn(len(versions))]
			last, _ := raftlog.Last(l)
			index := uint64(random.Intn(int(last) + 1))
			ahead, _ := raftlog.Term(l, index)
			var more []api.Entry
			for i := range 1 + random.Intn(3) {
				more = append(more, entry(index+uint64(i)+1, term))
			}
			l, _, _, e := raftlog.Merge(l, 0, index, ahead, more)
			if e != api.OK {
				t.Fatal(e)
			}
			versions = append(versions, l)
		}
		var a, b api.Log
		for range 12 {
			a = copyFrom(random, a, versions)
			b = copyFrom(random, b, versions)
			last, _ := raftlog.Last(a)
			same := true
			for i := last; i > 0; i-- {
				x, _ := raftlog.Term(a, i)
				y, ok := raftlog.Term(b, i)
				same = same && (!ok || x != y)
				if !same && (!ok || x != y) {
					t.Fatal(look(a), look(b))
				}
			}
		}
	}
}

func copyFrom(random *rand.Rand, l api.Log, versions []api.Log) api.Log {
	v := versions[random.Intn(len(versions))]
	last, _ := raftlog.Last(v)
	from := 1 + uint64(random.Intn(int(last)+1))
	slice, _ := raftlog.Slice(v, from, random.Intn(4))
	ahead, _ := raftlog.Term(v, from-1)
	if m, _, _, e := raftlog.Merge(l, 0, from-1, ahead, slice); e == api.OK {
		return m
	}
	return l
}

// TestAnyLog plays P1: logs that are not right make no call fail to end.
func TestAnyLog(t *testing.T) {
	random := rand.New(rand.NewSource(3))
	number := func() uint64 {
		return []uint64{0, 1, 2, 3, 1 << 61, 1<<62 - 1, 1 << 62, math.MaxUint64 - 1, math.MaxUint64}[random.Intn(9)]
	}
	for range 20000 {
		l := api.Log{Base: api.Snap{Index: number(), Term: number()}}
		for range random.Intn(4) {
			l.Entries = append(l.Entries, api.Entry{Index: number(), Term: number(), Kind: api.EntryKind(random.Intn(5))})
		}
		raftlog.Check(l)
		raftlog.Last(l)
		raftlog.Term(l, number())
		raftlog.Slice(l, number(), random.Intn(3))
		raftlog.Newer(l, number(), number())
		raftlog.Merge(l, number(), number(), number(), l.Entries)
		raftlog.Compact(l, number(), nil)
		raftlog.Conf(l)
	}
}
