// Package bits is layer 1: numbers in as many bits as they need: see shared/doc/01-bits.md.
package bits

import "tiltyard/api"

// maxWidth is the most bits that a number from 0 to api.MaxInt has.
const maxWidth = 63

// Writer writes bits.
type Writer struct {
	bytes []byte
	count int
}

// New is one without bits.
func New() *Writer { return &Writer{} }

// Put puts a number's bits behind the others.
func (w *Writer) Put(v, n int) api.Errno {
	if !rightWidth(n) || v < 0 || v>>n != 0 {
		return api.ErrArg
	}
	if n > api.MaxBits-w.count {
		return api.ErrLong
	}
	left := n
bytes:
	for {
		for place := placeOf(w.count); place >= 0; place-- {
			// Asked ahead of the byte's making, so that no byte stands without a bit.
			if left == 0 {
				break bytes
			}
			if place == 7 {
				w.bytes = append(w.bytes, 0)
			}
			left--
			w.bytes[len(w.bytes)-1] |= byte(v>>left&1) << place
			w.count++
		}
	}
	return api.OK
}

// Len is how many there are.
func (w *Writer) Len() int { return w.count }

// Bytes are they.
func (w *Writer) Bytes() []byte { return copied(w.bytes) }

// Reader reads bits.
type Reader struct {
	bytes []byte
	at    int
}

// Read is one of bytes.
func Read(b []byte) *Reader { return &Reader{bytes: copied(b)} }

// Take takes a number's bits.
func (r *Reader) Take(n int) (int, api.Errno) {
	if !rightWidth(n) {
		return 0, api.ErrArg
	}
	if n > r.Rest() {
		return 0, api.ErrEnd
	}
	v, left := 0, n
bytes:
	for {
		for place := placeOf(r.at); place >= 0; place-- {
			// Asked ahead of the byte's reading: behind the last bit there is none.
			if left == 0 {
				break bytes
			}
			left--
			v = v<<1 | int(r.bytes[r.at/8]>>place&1)
			r.at++
		}
	}
	return v, api.OK
}

// Rest is how many are left.
func (r *Reader) Rest() int { return 8*len(r.bytes) - r.at }

// Done tells whether nothing is left but what fills a byte.
func (r *Reader) Done() bool {
	rest := r.Rest()
	if rest >= 8 {
		goto more
	}
	for place := range rest {
		// Fewer than eight bits are all in the last byte, at its low end.
		if r.bytes[len(r.bytes)-1]>>place&1 != 0 {
			goto more
		}
	}
	return true
more:
	return false
}

// rightWidth tells whether a number may have n bits.
func rightWidth(n int) bool { return n >= 0 && n <= maxWidth }

// placeOf is where the bit with the number at stands in its byte: a byte is filled from its high end.
func placeOf(at int) int { return 7 - at%8 }

// copied is a copy, since a caller's bytes and those that are kept share no memory.
func copied(b []byte) []byte {
	c := make([]byte, len(b))
	copy(c, b)
	return c
}
