// Package copies makes copies of api's things: what comes out shares no memory with what went in, nor do two lists of it with each other.
package copies

// List is a copy of a list whose elements are whole by themselves.
func List[T any](l []T) []T {
	if len(l) == 0 {
		return nil
	}
	c := make([]T, len(l))
	copy(c, l)
	return c
}

// Each is a copy of a list whose elements have lists of their own.
func Each[T any](l []T, one func(T) T) []T {
	if len(l) == 0 {
		return nil
	}
	c := make([]T, len(l))
	for i, x := range l {
		c[i] = one(x)
	}
	return c
}

// room hands out copies of texts out of one piece of memory: many small ones cost as much as one.
type room []byte

func newRoom(size int) *room {
	r := make(room, 0, size)
	return &r
}

func (r *room) copied(b []byte) []byte {
	if len(b) == 0 {
		return nil
	}
	from := len(*r)
	*r = append(*r, b...)
	to := len(*r)
	return (*r)[from:to:to]
}
