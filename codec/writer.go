package codec

import "gazette/api"

// Writer puts bytes together; a zero one has none.
type Writer struct {
	b []byte
}

// Done are the bytes so far.
func (w *Writer) Done() []byte { return append([]byte(nil), w.b...) }

// Uint writes a number: seven bits a byte, the lowest first.
func (w *Writer) Uint(v uint64) {
	for v >= 0x80 {
		w.b = append(w.b, byte(v)|0x80)
		v >>= 7
	}
	w.b = append(w.b, byte(v))
}

// Int writes a signed number: small ones stay short, below 0 too.
func (w *Writer) Int(v int) { w.Uint(uint64(v)<<1 ^ uint64(v>>63)) }

// Bool writes 0 or 1.
func (w *Writer) Bool(v bool) {
	if v {
		w.b = append(w.b, 1)
	} else {
		w.b = append(w.b, 0)
	}
}

// Bytes writes a text.
func (w *Writer) Bytes(b []byte) {
	w.Uint(uint64(len(b)))
	w.b = append(w.b, b...)
}

// String writes a text.
func (w *Writer) String(s string) {
	w.Uint(uint64(len(s)))
	w.b = append(w.b, s...)
}

// Conf writes a configuration.
func (w *Writer) Conf(c api.Conf) {
	w.nodes(c.Voters)
	w.nodes(c.Learners)
}

func (w *Writer) nodes(l []int) {
	w.Uint(uint64(len(l)))
	for _, n := range l {
		w.Int(n)
	}
}

// Entry writes an entry of a group's log.
func (w *Writer) Entry(x api.Entry) {
	w.Uint(x.Index)
	w.Uint(x.Term)
	w.Int(int(x.Kind))
	w.Bytes(x.Data)
	w.Conf(x.Conf)
}

// Snap writes a snapshot.
func (w *Writer) Snap(x api.Snap) {
	w.Uint(x.Index)
	w.Uint(x.Term)
	w.Conf(x.Conf)
	w.Bytes(x.Data)
}

// Range writes a range of keys.
func (w *Writer) Range(r api.Range) {
	w.String(r.Lo)
	w.String(r.Hi)
}

// Record writes a record of a shard.
func (w *Writer) Record(x api.Record) {
	w.Uint(x.Offset)
	w.String(x.Key)
	w.Bytes(x.Value)
	w.Uint(x.Producer)
	w.Uint(x.Seq)
}
