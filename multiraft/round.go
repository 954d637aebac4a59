package multiraft

import (
	"errors"

	"gazette/api"
	"gazette/beats"
	"gazette/copies"
	"gazette/raftlog"
	"gazette/walindex"
)

// maxSegments is how many segments there are till what is needed of the older ones is written anew.
const maxSegments = 4

// waiting is what is to be written, and what is to be sent when it is.
type waiting struct {
	items []api.Item
	wires []beats.Wire
}

func (w *waiting) waitFor(i api.Item) { w.items = append(w.items, i) }

// wait lets wait what a step of a group put out; the cut goes ahead, so that what is written is what the state is.
func (w *waiting) wait(group uint64, s api.Raft, out api.Output) {
	if out.Cut != 0 {
		w.waitFor(api.Item{Kind: api.ItemCut, Group: group, Index: out.Cut})
	}
	if out.Install {
		w.waitFor(api.Item{Kind: api.ItemSnap, Group: group, Snap: copies.Snap(s.Log.Base)})
	}
	for _, x := range out.Entries {
		w.waitFor(api.Item{Kind: api.ItemEntry, Group: group, Entry: x})
	}
	if out.Save {
		w.waitFor(api.Item{Kind: api.ItemHard, Group: group, Hard: s.Hard})
	}
	for _, m := range out.Msgs {
		w.wires = append(w.wires, beats.Wire{Group: group, Msg: m})
	}
}

// forget lets nothing of a group wait any more.
func (w *waiting) forget(group uint64) {
	var left waiting
	for _, i := range w.items {
		if i.Group != group {
			left.items = append(left.items, i)
		}
	}
	for _, x := range w.wires {
		if x.Group != group {
			left.wires = append(left.wires, x)
		}
	}
	*w = left
}

// failure is what the write-ahead log answered, and what was being done.
type failure struct {
	doing  string
	number api.Errno
}

func (f *failure) Error() string { return f.doing + ": " + f.number.Error() }

func (f *failure) Unwrap() error { return f.number }

func (h *Host) write(doing string, items []api.Item) error {
	if e := h.log.Append(items); e != api.OK {
		return &failure{doing, e}
	}
	return nil
}

// Round makes all that waits last, and then tells the packets, and what was committed.
func (h *Host) Round() ([]api.Packet, []api.Applied, api.Errno) {
	if h.halted {
		return nil, nil, api.ErrHostHalt
	}
	if err := h.write("a round", h.items); err != nil {
		h.halted = true
		return nil, nil, api.ErrHostHalt
	}
	// A message that could not be packed would be as one that the net loses.
	packets, _ := beats.Pack(h.id, h.wires[:min(len(h.wires), api.MaxWires)])
	var told []api.Applied
	for _, group := range h.live() {
		told = append(told, h.members[group].tell(group)...)
	}
	h.waiting = waiting{}
	h.halted = h.sweep() != nil
	return packets, told, api.OK
}

// tell tells what was committed and was not told.
func (m *member) tell(group uint64) []api.Applied {
	base, commit := m.state.Log.Base, m.state.Hard.Commit
	if !m.snap && m.told >= commit {
		return nil
	}
	var l []api.Applied
	if m.snap {
		l = append(l, api.Applied{Group: group, Index: base.Index, Term: base.Term, Snapshot: true, Data: copies.List(base.Data)})
	}
	from := max(m.told, base.Index)
	entries, _ := raftlog.Slice(m.state.Log, from+1, int(commit-from))
	for _, x := range entries {
		if x.Kind == api.EntryData {
			l = append(l, api.Applied{Group: group, Index: x.Index, Term: x.Term, Data: x.Data})
		}
	}
	m.told, m.snap = commit, false
	return l
}

// sweep writes anew what is needed of the older segments, if there are many, and lets those go of which nothing is needed then.
func (h *Host) sweep() error {
	count := len(h.log.Segments())
	if count <= max(maxSegments, min(2*h.swept, api.MaxFiles/2)) {
		return nil
	}
	index, err := h.read()
	if err != nil {
		return err
	}
	if err := h.carry(index); err != nil {
		return err
	}
	if low, some := index.Low(); some {
		if e := h.log.Drop(low); e != api.OK {
			return &failure{"a drop", e}
		}
	}
	h.swept = len(h.log.Segments())
	return nil
}

// read is what the write-ahead log has, and in which segments.
func (h *Host) read() (*walindex.Index, error) {
	index := walindex.New()
	for _, segment := range h.log.Segments() {
		items, e := h.log.Items(segment)
		if e != api.OK {
			return nil, &failure{"a look back", e}
		}
		index.Segment(segment)
		for _, i := range items {
			index.Apply(i)
		}
	}
	return index, nil
}

// carry writes groups anew in one batch, or, where that is too large, group by group; a group that is too large by itself stays where it is.
func (h *Host) carry(index *walindex.Index) error {
	var all []api.Item
	groups := byGroup(index.Carry(h.log.Current()))
	for _, items := range groups {
		all = append(all, items...)
	}
	err := h.rewrite(index, all)
	if !errors.Is(err, api.ErrWalLarge) {
		return err
	}
	for _, items := range groups {
		if err := h.rewrite(index, items); err != nil && !errors.Is(err, api.ErrWalLarge) {
			return err
		}
	}
	return nil
}

func (h *Host) rewrite(index *walindex.Index, items []api.Item) error {
	if err := h.write("a sweep", items); err != nil {
		return err
	}
	index.Segment(h.log.Current())
	for _, i := range items {
		index.Apply(i)
	}
	return nil
}

// byGroup are items group by group. Of a group that has nothing but its life an empty state is written, so that it is not taken for one that was never there.
func byGroup(items []api.Item) [][]api.Item {
	var groups [][]api.Item
	for _, i := range items {
		n := len(groups)
		if n == 0 || groups[n-1][0].Group != i.Group {
			groups = append(groups, nil)
			n++
		}
		groups[n-1] = append(groups[n-1], i)
	}
	for n, g := range groups {
		if len(g) == 1 && g[0].Kind == api.ItemCut {
			groups[n] = append(g, api.Item{Kind: api.ItemHard, Group: g[0].Group})
		}
	}
	return groups
}
