package walindex_test

import (
	"fmt"
	"math"
	"math/rand"
	"reflect"
	"slices"
	"strings"
	"testing"

	"gazette/api"
	"gazette/walindex"
)

const group = 5

func entry(index, term uint64) api.Item {
	return api.Item{Kind: api.ItemEntry, Group: group, Entry: api.Entry{Index: index, Term: term, Kind: api.EntryData, Data: []byte("d")}}
}

func snap(index, term uint64) api.Item {
	return api.Item{Kind: api.ItemSnap, Group: group, Snap: api.Snap{Index: index, Term: term, Conf: api.Conf{Voters: []int{1}}, Data: []byte("s")}}
}

func cut(index uint64) api.Item { return api.Item{Kind: api.ItemCut, Group: group, Index: index} }

func hard(term uint64, vote int, commit uint64) api.Item {
	return api.Item{Kind: api.ItemHard, Group: group, Hard: api.Hard{Term: term, Vote: vote, Commit: commit}}
}

func gone() api.Item { return api.Item{Kind: api.ItemGone, Group: group} }

// look tells a view: the snapshot, the entries, the hard state.
func look(x *walindex.Index, g uint64) string {
	v, ok := x.View(g)
	if !ok {
		return "unknown"
	}
	var s []string
	if v.Gone {
		s = append(s, "gone")
	}
	if v.Log.Base.Index+v.Log.Base.Term > 0 {
		s = append(s, fmt.Sprintf("base %d/%d", v.Log.Base.Index, v.Log.Base.Term))
	}
	for _, e := range v.Log.Entries {
		s = append(s, fmt.Sprintf("%d/%d", e.Index, e.Term))
	}
	if v.Hard != (api.Hard{}) {
		s = append(s, fmt.Sprintf("hard %d %d %d", v.Hard.Term, v.Hard.Vote, v.Hard.Commit))
	}
	return strings.Join(s, " ")
}

func TestItems(t *testing.T) {
	type step struct {
		item api.Item
		want api.Errno
		view string
	}
	for name, steps := range map[string][]step{
		"examples": {
			{entry(1, 1), 0, "1/1"}, {entry(2, 1), 0, "1/1 2/1"}, {entry(3, 2), 0, "1/1 2/1 3/2"}, {entry(2, 2), 0, "1/1 2/2"},
			{entry(4, 2), api.ErrIndexGap, "1/1 2/2"}, {entry(3, 1), api.ErrIndexTerm, "1/1 2/2"},
			{entry(3, 2), 0, "1/1 2/2 3/2"}, {snap(2, 2), 0, "base 2/2 3/2"}, {snap(9, 3), 0, "base 9/3"},
			{cut(9), api.ErrIndexGap, "base 9/3"}, {cut(0), 0, ""}, {gone(), 0, "gone"}, {hard(1, 1, 1), api.ErrIndexGone, "gone"},
		},
		"no kind": {
			{api.Item{Group: group}, api.ErrIndexItem, "unknown"}, {api.Item{Kind: 6, Group: group}, api.ErrIndexItem, "unknown"},
			{api.Item{Kind: -1, Group: group}, api.ErrIndexItem, "unknown"}, {gone(), 0, "gone"}, {api.Item{Kind: -1, Group: group}, api.ErrIndexItem, "gone"},
			{cut(0), api.ErrIndexGone, "gone"}, {entry(0, 0), api.ErrIndexGone, "gone"}, {snap(3, 3), api.ErrIndexGone, "gone"}, {gone(), 0, "gone"},
		},
		"entries": {
			{entry(0, 1), api.ErrIndexItem, "unknown"}, {entry(2, 1), api.ErrIndexGap, "unknown"}, {entry(1, 0), 0, "1/0"},
			{snap(4, 3), 0, "base 4/3"}, {entry(4, 1), 0, "base 4/3"}, {entry(1, 9), 0, "base 4/3"}, {entry(5, 2), api.ErrIndexTerm, "base 4/3"},
			{entry(6, 3), api.ErrIndexGap, "base 4/3"}, {entry(5, 3), 0, "base 4/3 5/3"}, {entry(6, 3), 0, "base 4/3 5/3 6/3"}, {entry(5, 3), 0, "base 4/3 5/3"},
		},
		"hard": {
			{hard(2, 3, 1), 0, "hard 2 3 1"}, {hard(1, 1, 9), api.ErrIndexTerm, "hard 2 3 1"}, {hard(2, 1, 0), 0, "hard 2 1 0"}, {hard(3, 0, 0), 0, "hard 3 0 0"},
			{cut(0), 0, ""}, {hard(1, 0, 0), 0, "hard 1 0 0"},
		},
		"cuts": {
			{cut(1), 0, ""}, {entry(1, 1), 0, "1/1"}, {entry(2, 1), 0, "1/1 2/1"}, {cut(5), 0, "1/1 2/1"}, {cut(2), 0, "1/1"}, {cut(1), 0, ""},
			{snap(3, 1), 0, "base 3/1"}, {cut(3), api.ErrIndexGap, "base 3/1"}, {cut(2), api.ErrIndexGap, "base 3/1"}, {cut(4), 0, "base 3/1"},
		},
		"snapshots": {
			{snap(0, 7), 0, ""}, {entry(1, 1), 0, "1/1"}, {entry(2, 1), 0, "1/1 2/1"}, {entry(3, 1), 0, "1/1 2/1 3/1"}, {snap(0, 7), 0, "1/1 2/1 3/1"},
			{snap(1, 1), 0, "base 1/1 2/1 3/1"}, {snap(1, 9), 0, "base 1/1 2/1 3/1"}, {snap(2, 2), 0, "base 2/2"}, {entry(3, 2), 0, "base 2/2 3/2"}, {snap(3, 2), 0, "base 3/2"},
			{snap(math.MaxUint64, 2), 0, "base 18446744073709551615/2"}, {entry(math.MaxUint64, 2), 0, "base 18446744073709551615/2"}, {entry(1, 2), 0, "base 18446744073709551615/2"},
		},
		"last of all": {{snap(math.MaxUint64-1, 1), 0, "base 18446744073709551614/1"}, {entry(math.MaxUint64, 1), 0, "base 18446744073709551614/1 18446744073709551615/1"}},
	} {
		x := walindex.New()
		for i, s := range steps {
			if e := x.Apply(s.item); e != s.want || look(x, group) != s.view {
				t.Errorf("%s, %d: %v %q, not %v %q", name, i, e, look(x, group), s.want, s.view)
			}
		}
	}
}

func low(t *testing.T, x *walindex.Index, want int, some bool) {
	t.Helper()
	if n, ok := x.Low(); n != want || ok != some {
		t.Error(n, ok, "not", want, some)
	}
}

func TestSegmentsAndLow(t *testing.T) {
	x := walindex.New()
	low(t, x, 0, false)
	x.Apply(entry(2, 1))
	low(t, x, 0, false)
	if len(x.Groups()) != 0 {
		t.Error("an item that was refused makes a group known")
	}
	x.Apply(snap(0, 0))
	low(t, x, 1, true)
	x.Segment(4)
	x.Apply(entry(1, 1))
	low(t, x, 1, true)
	x.Apply(cut(0))
	low(t, x, 0, false)
	if v, ok := x.View(group); !ok || !reflect.ValueOf(v).IsZero() {
		t.Error("forgotten", v, ok)
	}
	x.Segment(-7)
	x.Apply(cut(3))
	low(t, x, -7, true)
	x.Segment(9)
	x.Apply(gone())
	low(t, x, 9, true)
	x.Segment(10)
	x.Apply(gone())
	low(t, x, 10, true)
	x.Segment(3)
	x.Apply(api.Item{Kind: api.ItemHard, Group: 2})
	low(t, x, 3, true)
	if !slices.Equal(x.Groups(), []uint64{2, 5}) {
		t.Error(x.Groups())
	}
	if _, ok := x.View(3); ok {
		t.Error("a group that is not known")
	}
}

func kinds(l []api.Item) string {
	s := ""
	for _, i := range l {
		s += fmt.Sprintf(" %d:%d", i.Group, i.Kind)
	}
	return s
}

func TestCarry(t *testing.T) {
	x := walindex.New()
	for _, i := range []api.Item{snap(2, 1), entry(3, 1), entry(4, 1), hard(1, 2, 3), {Kind: api.ItemGone, Group: 9}, {Kind: api.ItemHard, Group: 2}} {
		x.Apply(i)
	}
	x.Segment(2)
	x.Apply(api.Item{Kind: api.ItemHard, Group: 1, Hard: api.Hard{Term: 1}})
	if got := kinds(x.Carry(1)); got != "" {
		t.Error(got)
	}
	if got := kinds(x.Carry(2)); got != " 2:3 5:3 5:4 5:1 5:1 5:2 9:5" {
		t.Error(got)
	}
	if got := kinds(x.Carry(3)); got != " 1:3 1:2 2:3 5:3 5:4 5:1 5:1 5:2 9:5" {
		t.Error(got)
	}
	l := x.Carry(2)
	l[2].Snap.Data[0], l[3].Entry.Data[0], l[2].Snap.Conf.Voters[0] = 'z', 'z', 7
	if y := x.Carry(2); l[1].Index != 0 || y[2].Snap.Data[0] != 's' || y[3].Entry.Data[0] != 'd' || y[2].Snap.Conf.Voters[0] != 1 {
		t.Error("what Carry tells is its own")
	}
}

func TestMemory(t *testing.T) {
	x := walindex.New()
	i, s := entry(1, 1), api.Item{Kind: api.ItemSnap, Group: 6, Snap: api.Snap{Index: 1, Data: []byte("s"), Conf: api.Conf{Voters: []int{1}}}}
	x.Apply(i)
	x.Apply(s)
	i.Entry.Data[0], s.Snap.Data[0], s.Snap.Conf.Voters[0] = 'z', 'z', 9
	v, _ := x.View(group)
	w, _ := x.View(6)
	if string(v.Log.Entries[0].Data) != "d" || string(w.Log.Base.Data) != "s" || w.Log.Base.Conf.Voters[0] != 1 {
		t.Error("what was handed in is kept")
	}
	v.Log.Entries[0].Data[0] = 'q'
	_ = append(v.Log.Entries[:0], api.Entry{Index: 9})
	x.Apply(entry(2, 1))
	if again := look(x, group); again != "1/1 2/1" {
		t.Error(again)
	}
}

func randomItem(random *rand.Rand) api.Item {
	var i api.Item
	switch random.Intn(16) {
	case 0:
		i = cut(uint64(random.Intn(5)))
	case 1, 2:
		i = snap(uint64(random.Intn(9)), uint64(random.Intn(4)))
	case 3, 4, 5:
		i = hard(uint64(random.Intn(4)), random.Intn(3), uint64(random.Intn(3)))
	case 6:
		if random.Intn(4) == 0 {
			i = gone()
		}
	default:
		i = entry(uint64(random.Intn(9)), uint64(random.Intn(4)))
	}
	i.Group = uint64(random.Intn(3))
	return i
}

// TestInOrder plays P5.2.
func TestInOrder(t *testing.T) {
	random := rand.New(rand.NewSource(1))
	for range 300 {
		x := walindex.New()
		for range 60 {
			x.Apply(randomItem(random))
		}
		for _, g := range x.Groups() {
			v, _ := x.View(g)
			index, term := v.Log.Base.Index, v.Log.Base.Term
			for _, e := range v.Log.Entries {
				index++
				if e.Index != index || e.Term < term {
					t.Fatal(look(x, g))
				}
				term = e.Term
			}
		}
	}
}

// TestWhatMayGo plays P5.3: the segments ahead of one may go, if Carry is written behind the others.
func TestWhatMayGo(t *testing.T) {
	random := rand.New(rand.NewSource(2))
	type placed struct {
		segment int
		item    api.Item
	}
	for range 2000 {
		x := walindex.New()
		segment := 1
		var all []placed
		for range 30 {
			segment += random.Intn(8) / 7
			i := randomItem(random)
			x.Segment(segment)
			x.Apply(i)
			all = append(all, placed{segment, i})
		}
		from := 1 + random.Intn(segment+1)
		y := walindex.New()
		for _, p := range all {
			if p.segment >= from {
				y.Segment(p.segment)
				y.Apply(p.item)
			}
		}
		y.Segment(segment + 1)
		x.Segment(max(segment, from))
		for _, i := range x.Carry(from) {
			y.Apply(i)
		}
		for _, i := range x.Carry(from) {
			if x.Apply(i) != api.OK {
				t.Fatal("what is carried is refused", i)
			}
		}
		for _, g := range x.Groups() {
			v, _ := x.View(g)
			w, known := y.View(g)
			if !reflect.DeepEqual(v, w) || !known && !reflect.ValueOf(v).IsZero() {
				t.Fatal(g, look(x, g), look(y, g))
			}
		}
		if n, ok := x.Low(); ok && n < from {
			t.Fatal("Low", n, from)
		}
	}
}
