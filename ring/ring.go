// Package ring is layer 1: a byte ring buffer; see shared/doc/01-ring.md.
package ring

import "tmplpipe/api"

// Ring is a byte ring buffer with a fixed capacity.
type Ring struct {
	buf   []byte
	start int // index in buf of the first byte
	used  int // number of bytes, which may continue at the beginning of buf
}

// New returns an empty ring buffer.
func New(capacity int) (*Ring, api.Errno) {
	if capacity < 1 || capacity > api.MaxRing {
		return nil, api.ErrRange
	}
	return &Ring{buf: make([]byte, capacity)}, api.OK
}

// Put appends the first bytes of b, as many as fit, and returns their number.
func (r *Ring) Put(b []byte) int {
	if r == nil {
		return 0
	}
	n := min(len(b), r.Free())
	head, tail := r.parts(r.used, n)
	copied := copy(head, b)
	copy(tail, b[copied:])
	r.used += n
	return n
}

// Peek returns a copy of the first n bytes, or of all if there are fewer.
func (r *Ring) Peek(n int) []byte {
	if r == nil {
		return nil
	}
	out := make([]byte, max(0, min(n, r.used)))
	head, tail := r.parts(0, len(out))
	copied := copy(out, head)
	copy(out[copied:], tail)
	return out
}

// Consume removes the first n bytes.
func (r *Ring) Consume(n int) api.Errno {
	if r == nil {
		return api.ErrNil
	}
	if n < 0 || n > r.used {
		return api.ErrRange
	}
	r.start = r.index(n)
	r.used -= n
	return api.OK
}

// Len returns the number of bytes in the buffer.
func (r *Ring) Len() int {
	if r == nil {
		return 0
	}
	return r.used
}

// Free returns the number of bytes that still fit.
func (r *Ring) Free() int { return r.Cap() - r.Len() }

// Cap returns the capacity.
func (r *Ring) Cap() int {
	if r == nil {
		return 0
	}
	return len(r.buf)
}

// index returns where in buf the byte lies that is skip bytes after the first one; skip is at most the capacity.
func (r *Ring) index(skip int) int {
	i := r.start + skip
	if i >= len(r.buf) {
		i -= len(r.buf)
	}
	return i
}

// parts returns the place of the n bytes that come skip bytes after the first one. The second part is the one that
// continues at the beginning of buf; it is empty if the bytes do not wrap around.
func (r *Ring) parts(skip, n int) ([]byte, []byte) {
	from := r.index(skip)
	head := min(n, len(r.buf)-from)
	return r.buf[from : from+head], r.buf[:n-head]
}
