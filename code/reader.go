package code

import (
	"bytes"

	"bootjack/api"
)

// Reader reads bytes, from the first to the last.
type Reader struct {
	left  []byte // of the row that was handed in: none once there is an error
	first api.Errno
}

// New: a reader of bytes.
func New(b []byte) *Reader {
	return &Reader{left: b}
}

// Fixed: a number of so many bytes.
func (r *Reader) Fixed(size int) uint64 {
	var n uint64
	for i, c := range r.take(sizeOf(size)) {
		n |= uint64(c) << (8 * i)
	}
	return n
}

// Text: a text with its length.
func (r *Reader) Text(most int) string {
	length := int(r.Fixed(lengthSize))
	if length > most {
		r.fail(api.ErrForm)
	}
	return string(r.take(length)) // none behind an error: it has left no bytes
}

// Raw: so many bytes.
func (r *Reader) Raw(size int) []byte {
	return bytes.Clone(r.take(max(size, 0)))
}

// Left: how many bytes are left.
func (r *Reader) Left() int {
	return len(r.left)
}

// Err: the first error.
func (r *Reader) Err() api.Errno {
	return r.first
}

// End: is all read?
func (r *Reader) End() api.Errno {
	if len(r.left) > 0 { // so there is no error yet
		return api.ErrForm
	}
	return r.first
}

// take: the next bytes, a piece of the row that was handed in; no error is asked for here, since behind one none are left.
func (r *Reader) take(size int) []byte {
	if size > len(r.left) {
		r.fail(api.ErrShort)
		return nil
	}
	b := r.left[:size]
	r.left = r.left[size:]
	return b
}

// fail: an error behind another one is what came of that, and is dropped.
func (r *Reader) fail(e api.Errno) {
	if r.first == api.OK {
		r.first = e
	}
	r.left = nil
}
