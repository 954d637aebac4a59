package walindex

import (
	"gazette/api"
	"gazette/copies"
)

// forget is an item of the kind ItemCut that leaves nothing.
const forget api.ItemKind = -1

func kindOf(i api.Item) api.ItemKind {
	if i.Kind == api.ItemCut && i.Index == 0 {
		return forget
	}
	return i.Kind
}

// group is what is known of a group, and, if segments are needed for it, the first of them.
type group struct {
	view   api.View
	needed bool
	first  int
}

// take does what an item says; an error tells why nothing was done.
func (g *group) take(i api.Item) error {
	switch {
	case i.Kind < api.ItemEntry || i.Kind > api.ItemGone:
		return &refusal{"an item of no kind", api.ErrIndexItem}
	case g.view.Gone && i.Kind != api.ItemGone:
		return &refusal{"behind the group's end", api.ErrIndexGone}
	}
	switch kindOf(i) {
	case api.ItemGone:
		g.view.Gone = true
		fallthrough
	case forget:
		*g = group{view: api.View{Gone: g.view.Gone}}
	case api.ItemEntry:
		if err := g.refusesEntry(i.Entry); err != nil {
			return err
		}
		i.Index = i.Entry.Index
		fallthrough
	case api.ItemCut:
		if i.Index <= g.view.Log.Base.Index {
			return &refusal{"a cut within the snapshot", api.ErrIndexGap}
		}
		g.cut(i.Index)
		if i.Kind == api.ItemEntry {
			g.view.Log.Entries = append(g.view.Log.Entries, copies.Entry(i.Entry))
		}
	case api.ItemHard:
		if i.Hard.Term < g.view.Hard.Term {
			return &refusal{"a term that goes back", api.ErrIndexTerm}
		}
		g.view.Hard = i.Hard
	case api.ItemSnap:
		return g.install(i.Snap)
	}
	return nil
}

// last is the last entry's index; the snapshot's, if there is none.
func (g *group) last() uint64 {
	return g.view.Log.Base.Index + uint64(len(g.view.Log.Entries))
}

// at is the entry of an index that is behind the snapshot's, and not behind the last one.
func (g *group) at(index uint64) *api.Entry {
	return &g.view.Log.Entries[index-g.view.Log.Base.Index-1]
}

func (g *group) refusesEntry(x api.Entry) error {
	base := g.view.Log.Base
	switch {
	case x.Index == 0:
		return &refusal{"an entry without an index", api.ErrIndexItem}
	case x.Index <= base.Index:
		return &refusal{"the snapshot has it", api.OK}
	case x.Index-1 > g.last():
		return &refusal{"an entry that does not follow", api.ErrIndexGap}
	}
	ahead := base.Term
	if x.Index-1 > base.Index {
		ahead = g.at(x.Index - 1).Term
	}
	if x.Term < ahead {
		return &refusal{"a term that goes back", api.ErrIndexTerm}
	}
	return nil
}

// cut lets all entries go from an index on that is behind the snapshot's.
func (g *group) cut(index uint64) {
	if index <= g.last() {
		g.view.Log.Entries = g.view.Log.Entries[:index-g.view.Log.Base.Index-1]
	}
}

// install puts a snapshot in the place of the one that there is; entries behind it stay, if it is of this log.
func (g *group) install(s api.Snap) error {
	base := g.view.Log.Base.Index
	if s.Index <= base {
		return &refusal{"as new a snapshot is there", api.OK}
	}
	var left []api.Entry
	if s.Index <= g.last() && g.at(s.Index).Term == s.Term {
		left = copies.List(g.view.Log.Entries[s.Index-base:])
	}
	g.view.Log = api.Log{Base: copies.Snap(s), Entries: left}
	return nil
}

// items are those that make the group what it is, whatever was known of it.
func (g *group) items(n uint64) []api.Item {
	if g.view.Gone {
		return []api.Item{{Kind: api.ItemGone, Group: n}}
	}
	l := []api.Item{{Kind: api.ItemCut, Group: n}}
	v := copies.View(g.view)
	if v.Log.Base.Index != 0 {
		l = append(l, api.Item{Kind: api.ItemSnap, Group: n, Snap: v.Log.Base})
	}
	for _, x := range v.Log.Entries {
		l = append(l, api.Item{Kind: api.ItemEntry, Group: n, Entry: x})
	}
	if v.Hard != (api.Hard{}) {
		l = append(l, api.Item{Kind: api.ItemHard, Group: n, Hard: v.Hard})
	}
	return l
}
