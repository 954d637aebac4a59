package wal

import (
	"gazette/api"
	"gazette/codec"
)

// batchOf is the bytes of a batch.
func batchOf(l []api.Item) ([]byte, api.Errno) {
	w := &codec.Writer{}
	w.Uint(uint64(len(l)))
	for _, x := range l {
		b := codec.Item(x)
		if _, e := codec.ReadItem(b); e != api.OK {
			return nil, api.ErrArg
		}
		w.Bytes(b)
	}
	batch := w.Done()
	if len(batch) > api.MaxFrame {
		return nil, api.ErrWalLarge
	}
	return batch, api.OK
}

// read tells a segment's items, and how many bytes its whole frames have.
func (w *Wal) read(segment int) ([]api.Item, int, error) {
	name := Name(segment)
	size, _, _ := w.disk.Size(name)
	rest, e := w.disk.Read(name, 0, size)
	if e != api.OK {
		return nil, 0, failed("read", e)
	}
	var items []api.Item
	for {
		batch, behind, e := codec.Unframe(rest)
		if e != api.OK {
			return items, size - len(rest), nil
		}
		l, err := batchItems(batch)
		if err != nil {
			return nil, 0, err
		}
		items, rest = append(items, l...), behind
	}
}

// What may be wrong with a batch, in the order in which it is looked at.
const (
	stepCount = iota
	stepItems
	stepRest
)

// batchItems are the items of a whole frame: bytes that were not written as a batch are no crash's work.
func batchItems(b []byte) ([]api.Item, error) {
	var items []api.Item
	r := codec.NewReader(b)
	count := 0
	switch step := stepCount; step {
	case stepCount:
		count = r.Count(api.MaxFrame)
		if count == 0 {
			return nil, failed("a batch without items", api.ErrWalDamaged)
		}
		fallthrough
	case stepItems:
		for range count {
			x, e := codec.ReadItem(r.Bytes(api.MaxFrame))
			if e != api.OK {
				return nil, failed("an item of a batch", api.ErrWalDamaged)
			}
			items = append(items, x)
		}
		fallthrough
	case stepRest:
		if r.Done() != api.OK {
			return nil, failed("bytes behind a batch", api.ErrWalDamaged)
		}
	}
	return items, nil
}
