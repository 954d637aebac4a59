package records

import (
	"slices"
	"strings"

	"gazette/api"
	"gazette/copies"
)

// byName is the order of consumers.
func byName(a, b api.Consumer) int { return strings.Compare(a.Name, b.Name) }

// place is a list with an element in its place, in the stead of one that is of the same order.
func place[T any](l []T, x T, order func(T, T) int) []T {
	at, there := slices.BinarySearchFunc(l, x, order)
	c := copies.List(l)
	if there {
		c[at] = x
		return c
	}
	return slices.Insert(c, at, x)
}

// offsets are where the records of a log stand in another one.
type offsets []uint64

// at is where to read on there, at an offset here; what is above has read all.
func (o offsets) at(offset uint64) uint64 {
	return o[min(offset, uint64(len(o)-1))]
}

// Consumers: may they be a list?
func Consumers(l []api.Consumer) bool {
	for i, x := range l {
		if !Name(x.Name) || i > 0 && l[i-1].Name >= x.Name {
			return false
		}
	}
	return len(l) <= api.MaxConsumers
}

// Commit puts a consumer where it reads on.
func Commit(l []api.Consumer, x api.Consumer, end uint64) ([]api.Consumer, api.Errno) {
	switch {
	case !Consumers(l):
		return nil, api.ErrArg
	case !Name(x.Name):
		return nil, api.ErrRecordsName
	case x.Offset > end:
		return nil, api.ErrRecordsOffset
	}
	if placed := place(l, x, byName); len(placed) <= api.MaxConsumers {
		return placed, api.OK
	}
	return nil, api.ErrRecordsFull
}

// Read is where a consumer reads on.
func Read(l []api.Consumer, name string) (uint64, bool) {
	for _, x := range l {
		if x.Name == name {
			return x.Offset, true
		}
	}
	return 0, false
}

// Map are consumers on a log that was kept.
func Map(l []api.Consumer, to []uint64) []api.Consumer {
	if len(to) == 0 {
		return nil
	}
	return moved(l, offsets(to).at)
}

func moved(l []api.Consumer, at func(uint64) uint64) []api.Consumer {
	return copies.Each(l, func(x api.Consumer) api.Consumer {
		return api.Consumer{Name: x.Name, Offset: at(x.Offset)}
	})
}

// Both are the consumers of two logs on the joined one: each reads on where it has not read on either side.
func Both(a []api.Consumer, b []api.Consumer, toA []uint64, toB []uint64) ([]api.Consumer, api.Errno) {
	if !Consumers(a) || !Consumers(b) || len(toA) == 0 || len(toB) == 0 {
		return nil, api.ErrArg
	}
	var l []api.Consumer
	for _, x := range slices.Concat(a, b) {
		inA, _ := Read(a, x.Name)
		inB, _ := Read(b, x.Name)
		offset := min(offsets(toA).at(inA), offsets(toB).at(inB))
		l = place(l, api.Consumer{Name: x.Name, Offset: offset}, byName)
	}
	if len(l) > api.MaxConsumers {
		return nil, api.ErrRecordsFull
	}
	return l, api.OK
}
