package codec

import "gazette/api"

const sumBytes = 4

// nibbles is CRC-32C of four bits at a time: a table for whole bytes would be sixteen times as long.
var nibbles = [16]uint32{
	0x00000000, 0x105ec76f, 0x20bd8ede, 0x30e349b1, 0x417b1dbc, 0x5125dad3, 0x61c69362, 0x7198540d,
	0x82f63b78, 0x92a8fc17, 0xa24bb5a6, 0xb21572c9, 0xc38d26c4, 0xd3d3e1ab, 0xe330a81a, 0xf36e6f75,
}

// Sum is the CRC-32C of bytes.
func Sum(b []byte) uint32 {
	c := ^uint32(0)
	for _, x := range b {
		c ^= uint32(x)
		c = c>>4 ^ nibbles[c&15]
		c = c>>4 ^ nibbles[c&15]
	}
	return ^c
}

// Frame puts bytes into a frame: their number, these, their sum.
func Frame(b []byte) []byte {
	w := &Writer{}
	w.Bytes(b)
	s := Sum(b)
	return append(w.Done(), byte(s), byte(s>>8), byte(s>>16), byte(s>>24))
}

// The parts of a frame, in the order in which they are looked at.
const (
	partNumber = iota
	partBytes
	partSum
)

// Unframe takes the frame that bytes begin with: what is in it, and what stands behind it.
func Unframe(b []byte) ([]byte, []byte, api.Errno) {
	r := &Reader{b: b} // it does not outlast the call, so it needs no copy
	var size uint64
	var inside, sum []byte
	switch part := partNumber; part {
	case partNumber:
		size = r.Uint()
		if size > api.MaxFrame {
			r.Fail(api.ErrCodecLong)
		}
		fallthrough
	case partBytes:
		inside = r.take(int(size))
		fallthrough
	case partSum:
		sum = r.take(sumBytes)
		if r.err == nil && littleEndian(sum) != Sum(inside) {
			r.Fail(api.ErrCodecSum)
		}
	}
	if e, _ := r.Err(); e != api.OK {
		return nil, nil, e
	}
	return inside, append([]byte(nil), r.b[r.at:]...), api.OK
}

func littleEndian(b []byte) uint32 {
	var v uint32
	for i, x := range b {
		v |= uint32(x) << (8 * i)
	}
	return v
}
