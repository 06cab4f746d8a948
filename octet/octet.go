// Package octet: numbers, truths and texts as bytes (chapter 1).
package octet

import (
	"bytes"

	"interrex/api"
)

// longest is what a number of 2 bytes, as lengths are, can still say.
const longest = 1<<16 - 1

// Writer is bytes that grow.
type Writer struct {
	written []byte
}

// number writes so many of a number's bytes, the lowest one first.
func (w *Writer) number(x uint64, size int) *Writer {
	for i := range size {
		w.written = append(w.written, byte(x>>(8*i)))
	}
	return w
}

// Byte: a number of 1 byte.
func (w *Writer) Byte(x uint8) *Writer { return w.number(uint64(x), 1) }

// Two: of 2.
func (w *Writer) Two(x uint16) *Writer { return w.number(uint64(x), 2) }

// Four: of 4.
func (w *Writer) Four(x uint32) *Writer { return w.number(uint64(x), 4) }

// Eight: of 8.
func (w *Writer) Eight(x uint64) *Writer { return w.number(x, 8) }

// Truth: 1 or 0.
func (w *Writer) Truth(is bool) *Writer {
	if is {
		return w.Byte(1)
	}
	return w.Byte(0)
}

// Text: its length, and it.
func (w *Writer) Text(s string) *Writer {
	s = s[:min(len(s), longest)]
	w.Two(uint16(len(s)))
	w.written = append(w.written, s...)
	return w
}

// Row: how many, and they.
func (w *Writer) Row(l []string) *Writer {
	l = l[:min(len(l), longest)]
	w.Two(uint16(len(l)))
	for _, s := range l {
		w.Text(s)
	}
	return w
}

// Raw: bytes.
func (w *Writer) Raw(b []byte) *Writer {
	w.written = append(w.written, b...)
	return w
}

// Bytes: all. A copy, since later calls may write into the Writer's own.
func (w *Writer) Bytes() []byte { return bytes.Clone(w.written) }

// Reader is bytes that are left. With an error none are, so that whoever
// reads need not ask after each part.
type Reader struct {
	left []byte
	err  api.Errno
}

// Of: these bytes. A copy, since the caller may change its own.
func Of(b []byte) *Reader { return &Reader{left: bytes.Clone(b)} }

// Fail: an error.
func (r *Reader) Fail(e api.Errno) {
	if e == api.OK || r.err != api.OK {
		return
	}
	r.err = e
	r.left = nil
}

// next takes so many bytes, or none. They are the Reader's own: callers copy
// what they hand out.
func (r *Reader) next(n int) []byte {
	if n > len(r.left) {
		r.Fail(api.ErrShort)
		return nil
	}
	b := r.left[:n]
	r.left = r.left[n:]
	return b
}

// number reads one of so many bytes.
func (r *Reader) number(size int) uint64 {
	var x uint64
	for i, c := range r.next(size) {
		x |= uint64(c) << (8 * i)
	}
	return x
}

// Byte: a number of 1 byte.
func (r *Reader) Byte() uint8 { return uint8(r.number(1)) }

// Two: of 2.
func (r *Reader) Two() uint16 { return uint16(r.number(2)) }

// Four: of 4.
func (r *Reader) Four() uint32 { return uint32(r.number(4)) }

// Eight: of 8.
func (r *Reader) Eight() uint64 { return r.number(8) }

// Truth: 1 or 0.
func (r *Reader) Truth() bool {
	x := r.Byte()
	if x > 1 {
		r.Fail(api.ErrForm)
	}
	return x == 1
}

// length reads how many there are. Too many are told here, ahead of what
// stands behind, so that bytes that are wanting there don't hide it.
func (r *Reader) length(most int) int {
	n := int(r.Two())
	if n > max(most, 0) {
		r.Fail(api.ErrLong)
		return 0
	}
	return n
}

// Text: the next one.
func (r *Reader) Text(most int) string { return string(r.next(r.length(most))) }

// Row: the next one.
func (r *Reader) Row(most, long int) []string {
	var l []string
	for range r.length(most) {
		s := r.Text(long)
		if r.err != api.OK {
			return nil
		}
		l = append(l, s)
	}
	return l
}

// Raw: so many bytes.
func (r *Reader) Raw(n int) []byte { return bytes.Clone(r.next(max(n, 0))) }

// Left: how many.
func (r *Reader) Left() int { return len(r.left) }

// Err: the first error.
func (r *Reader) Err() api.Errno { return r.err }

// End: the first error, or that bytes are left.
func (r *Reader) End() api.Errno {
	if len(r.left) > 0 {
		return api.ErrLong
	}
	return r.err
}
