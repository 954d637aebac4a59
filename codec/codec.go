// Package codec writes everything as bytes and reads it back: numbers, texts, lists, the items of the write-ahead log, and frames with sums.
package codec

import "gazette/api"

// Item writes an item of the write-ahead log; no bytes, if its kind is none.
func Item(x api.Item) []byte {
	w := &Writer{}
	w.Int(int(x.Kind))
	w.Uint(x.Group)
	switch x.Kind {
	case api.ItemEntry:
		w.Entry(x.Entry)
	case api.ItemHard:
		w.Uint(x.Hard.Term)
		w.Int(x.Hard.Vote)
		w.Uint(x.Hard.Commit)
	case api.ItemCut:
		w.Uint(x.Index)
	case api.ItemSnap:
		w.Snap(x.Snap)
	case api.ItemGone:
	default:
		return nil
	}
	return w.Done()
}

// ReadItem reads the item whose bytes b is.
func ReadItem(b []byte) (api.Item, api.Errno) {
	r := NewReader(b)
	x := api.Item{Kind: itemKind(r), Group: r.Uint()}
	switch x.Kind {
	case api.ItemEntry:
		x.Entry = r.Entry()
	case api.ItemHard:
		x.Hard = api.Hard{Term: r.Uint(), Vote: r.Int(), Commit: r.Uint()}
	case api.ItemCut:
		x.Index = r.Uint()
	case api.ItemSnap:
		x.Snap = r.Snap()
	}
	if e := r.Done(); e != api.OK {
		return api.Item{}, e
	}
	return x, api.OK
}

func itemKind(r *Reader) api.ItemKind {
	place := r.at
	k := api.ItemKind(r.Int())
	if k < api.ItemEntry || k > api.ItemGone {
		r.failAt(place, api.ErrCodecKind)
	}
	return k
}
