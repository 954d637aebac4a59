package codec

import (
	"errors"
	"strconv"

	"gazette/api"
)

// numberBytes is how many bytes a number has at most.
const numberBytes = 10

// mistake is what is wrong with bytes, and where that begins.
type mistake struct {
	number api.Errno
	place  int
}

func (m *mistake) Error() string {
	return m.number.Error() + " at the byte " + strconv.Itoa(m.place)
}

func (m *mistake) Unwrap() error { return m.number }

// Reader takes bytes apart; behind an error all that it tells is zero.
type Reader struct {
	b   []byte
	at  int
	err error
}

// NewReader is one of bytes, as they are now.
func NewReader(b []byte) *Reader { return &Reader{b: append([]byte(nil), b...)} }

// Fail makes it an error, if there is none.
func (r *Reader) Fail(e api.Errno) { r.failAt(r.at, e) }

func (r *Reader) failAt(place int, e api.Errno) {
	if r.err == nil && e != api.OK {
		r.err = &mistake{e, place}
	}
}

// Err is the first error, and its place.
func (r *Reader) Err() (api.Errno, int) {
	var m *mistake
	if errors.As(r.err, &m) {
		return m.number, m.place
	}
	return api.OK, 0
}

// Done is the first error; or whether something is left.
func (r *Reader) Done() api.Errno {
	e, _ := r.Err()
	if e == api.OK && r.at < len(r.b) {
		return api.ErrCodecRest
	}
	return e
}

// Uint reads a number.
func (r *Reader) Uint() uint64 {
	if r.err != nil {
		return 0
	}
	v, size, e := number(r.b[r.at:])
	r.Fail(e)
	r.at += size
	return v
}

// number is the number that bytes begin with, and how many bytes it has.
func number(b []byte) (uint64, int, api.Errno) {
	var v uint64
	for i := range numberBytes {
		if i == len(b) {
			return 0, 0, api.ErrCodecShort
		}
		x := b[i]
		last := i == numberBytes-1
		if last && x != 1 || x == 0 && i > 0 {
			break
		}
		v |= uint64(x&0x7f) << (7 * i)
		if x < 0x80 {
			return v, i + 1, api.OK
		}
	}
	return 0, 0, api.ErrCodecNumber
}

// Int reads a signed number.
func (r *Reader) Int() int {
	v := r.Uint()
	return int(v>>1 ^ -(v & 1))
}

// Bool reads 0 or 1.
func (r *Reader) Bool() bool {
	place := r.at
	b := r.take(1)
	if len(b) == 1 && b[0] > 1 {
		r.failAt(place, api.ErrCodecKind)
	}
	return r.err == nil && b[0] == 1
}

// take is so many bytes, in new memory.
func (r *Reader) take(size int) []byte {
	if r.err == nil && size > len(r.b)-r.at {
		r.Fail(api.ErrCodecShort)
	}
	if r.err != nil {
		return nil
	}
	r.at += size
	return append([]byte(nil), r.b[r.at-size:r.at]...)
}

// Count reads how many there are of something that has a byte each, or more.
func (r *Reader) Count(most int) int {
	place := r.at
	v := r.Uint()
	if most < 0 || v > uint64(most) {
		r.failAt(place, api.ErrCodecLong)
	}
	if v > uint64(len(r.b)-r.at) {
		r.failAt(place, api.ErrCodecShort)
	}
	return whole(r, int(v))
}

// whole is what was read, or nothing, if something of it could not be.
func whole[T any](r *Reader, x T) T {
	if r.err != nil {
		var none T
		return none
	}
	return x
}

// Bytes reads a text.
func (r *Reader) Bytes(most int) []byte { return r.take(r.Count(most)) }

// String reads a text.
func (r *Reader) String(most int) string { return string(r.Bytes(most)) }

// Conf reads a configuration.
func (r *Reader) Conf() api.Conf {
	return whole(r, api.Conf{Voters: r.nodes(), Learners: r.nodes()})
}

func (r *Reader) nodes() []int {
	var l []int
	for range r.Count(api.MaxNodes) {
		l = append(l, r.Int())
	}
	return l
}

// Entry reads an entry of a group's log.
func (r *Reader) Entry() api.Entry {
	return whole(r, api.Entry{Index: r.Uint(), Term: r.Uint(), Kind: r.entryKind(), Data: r.Bytes(api.MaxFrame), Conf: r.Conf()})
}

func (r *Reader) entryKind() api.EntryKind {
	place := r.at
	k := api.EntryKind(r.Int())
	if k < api.EntryEmpty || k > api.EntryChange {
		r.failAt(place, api.ErrCodecKind)
	}
	return k
}

// Snap reads a snapshot.
func (r *Reader) Snap() api.Snap {
	return whole(r, api.Snap{Index: r.Uint(), Term: r.Uint(), Conf: r.Conf(), Data: r.Bytes(api.MaxFrame)})
}

// Range reads a range of keys.
func (r *Reader) Range() api.Range {
	return whole(r, api.Range{Lo: r.String(api.MaxKey), Hi: r.String(api.MaxKey)})
}

// Record reads a record of a shard.
func (r *Reader) Record() api.Record {
	return whole(r, api.Record{Offset: r.Uint(), Key: r.String(api.MaxKey), Value: r.Bytes(api.MaxValue), Producer: r.Uint(), Seq: r.Uint()})
}
