// Package buf is layer 1: see shared/doc/01-buf.md.
package buf

import (
	"slices"

	"rutter/api"
)

// Writer writes. It is handed on by its pointer: a copy of one that has something would share its memory.
type Writer struct {
	all   []byte
	wrong bool
}

// wide tells whether numbers may have n bytes.
func wide(n int) bool { return n >= 1 && n <= 8 }

// fail lets go of what was written, since it is never told any more.
func (w *Writer) fail() *Writer {
	w.all, w.wrong = nil, true
	return w
}

// Put writes numbers of n bytes.
func (w *Writer) Put(n int, l ...int) *Writer {
	if w == nil || w.wrong {
		return w
	}
	if !wide(n) {
		return w.fail()
	}
	for _, x := range l {
		if x < 0 || x>>(8*n) != 0 {
			return w.fail()
		}
		for i := n - 1; i >= 0; i-- {
			w.all = append(w.all, byte(x>>(8*i)))
		}
	}
	return w
}

// Bytes writes bytes.
func (w *Writer) Bytes(b []byte) *Writer {
	if w == nil {
		return nil
	}
	// Too many bytes are found out here: their number doesn't fit.
	w.Put(2, len(b))
	if !w.wrong {
		w.all = append(w.all, b...)
	}
	return w
}

// Done is what was written.
func (w *Writer) Done() ([]byte, api.Errno) {
	if w == nil || w.wrong {
		return nil, api.ErrArg
	}
	return slices.Clone(w.all), api.OK
}

// Reader reads.
type Reader struct {
	left   []byte
	failed bool
}

// Read is a reader of bytes.
func Read(b []byte) *Reader {
	// What is taken is handed out as it lies in the reader's memory, so that memory is its own.
	return &Reader{left: slices.Clone(b)}
}

// fail lets go of what is left, so that nothing comes any more.
func (r *Reader) fail() {
	r.left, r.failed = nil, true
}

// take takes the first n bytes of what is left. It cuts their room too: who appends to them doesn't write into what is behind.
func (r *Reader) take(n int) []byte {
	if n > len(r.left) {
		r.fail()
		return nil
	}
	b := r.left[:n:n]
	r.left = r.left[n:]
	return b
}

// Get reads a number of n bytes.
func (r *Reader) Get(n int) int {
	if r == nil {
		return 0
	}
	if !wide(n) {
		r.fail()
		return 0
	}
	var x uint64
	for _, c := range r.take(n) {
		x = x<<8 | uint64(c)
	}
	if x>>63 != 0 {
		r.fail()
		return 0
	}
	return int(x)
}

// Bytes reads bytes.
func (r *Reader) Bytes(most int) []byte {
	if r == nil {
		return nil
	}
	n := r.Get(2)
	if n > most {
		r.fail()
	}
	return r.take(n)
}

// Rest reads all that is left.
func (r *Reader) Rest() []byte {
	if r == nil {
		return nil
	}
	return r.take(len(r.left))
}

// Done tells whether all is read.
func (r *Reader) Done() api.Errno {
	if r == nil {
		return api.ErrArg
	}
	if r.failed || len(r.left) > 0 {
		return api.ErrForm
	}
	return api.OK
}
