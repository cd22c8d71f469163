// Package codec is numbers and bytes, one behind the other, in just one way.
package codec

import (
	"bytes"

	"bailee/api"
)

// How a number stands.
const (
	seven   = 7          // bits of the number in a byte
	more    = 1 << seven // what each byte but the last one has more
	longest = 10         // bytes of the longest number
	topmost = 1          // the greatest last byte of so many: 63 bits stand ahead of it
)

// Reader takes them from the front; its first error stays.
type Reader struct {
	left []byte
	err  api.Errno
}

// NewReader reads bytes.
func NewReader(b []byte) *Reader {
	// A copy: what was handed in may change while it is still being read.
	return &Reader{left: bytes.Clone(b)}
}

// Uint is the next number.
func (r *Reader) Uint() uint64 {
	if r.Err() != api.OK {
		return 0
	}
	x, n, err := number(r.left)
	r.err = err
	r.left = r.left[n:]
	return x
}

// number is the number at the front of bytes, and how many of them it takes.
func number(b []byte) (uint64, int, api.Errno) {
	x, n, err := uint64(0), 0, api.ErrShort
digits:
	for i, c := range b {
		x |= uint64(c%more) << (seven * i)
		switch {
		// Told here, not at the end: no byte that may follow mends it.
		case i == longest-1 && c > topmost, i > 0 && c == 0:
			err = api.ErrForm
			break digits
		case c < more:
			n, err = i+1, api.OK
			break digits
		}
	}
	if err != api.OK {
		return 0, 0, err
	}
	return x, n, api.OK
}

// Fixed are the next bytes, so many.
func (r *Reader) Fixed(n int) []byte {
	return bytes.Clone(r.take(n))
}

// take are the next bytes, so many, where they stand; nil beside an error.
func (r *Reader) take(n int) []byte {
	switch {
	case r.Err() != api.OK:
		return nil
	case n < 0:
		r.err = api.ErrArg
		return nil
	case n > len(r.left):
		r.err = api.ErrShort
		return nil
	}
	// Three indices: nothing that is done with them reaches what is left.
	taken := r.left[:n:n]
	r.left = r.left[n:]
	return taken
}

// Bytes are the next bytes, as many as a number ahead tells, at most so many.
func (r *Reader) Bytes(most int) []byte {
	n := r.Uint()
	if r.Err() != api.OK {
		return nil
	}
	if most < 0 || n > uint64(most) {
		r.err = api.ErrBig
		return nil
	}
	return r.Fixed(int(n))
}

// Bool is the next yes or no.
func (r *Reader) Bool() bool {
	b := r.take(1)
	if b == nil {
		return false
	}
	if b[0] > 1 {
		r.err = api.ErrForm
		return false
	}
	return b[0] == 1
}

// Id is the next digest.
func (r *Reader) Id() api.Id {
	b := r.take(api.Digest)
	if b == nil {
		return api.Id{}
	}
	return api.Id(b)
}

// Err is the first error.
func (r *Reader) Err() api.Errno {
	if r == nil {
		return api.ErrArg
	}
	return r.err
}

// End is the first error; if there is none, whether bytes are left.
func (r *Reader) End() api.Errno {
	if err := r.Err(); err != api.OK {
		return err
	}
	if len(r.left) > 0 {
		return api.ErrLeft
	}
	return api.OK
}

// Writer puts them one behind the other.
type Writer struct {
	put []byte
}

// NewWriter has nothing yet.
func NewWriter() *Writer { return &Writer{} }

// Uint puts a number.
func (w *Writer) Uint(x uint64) {
	if w == nil {
		return
	}
	for ; x >= more; x >>= seven {
		w.put = append(w.put, byte(x)|more)
	}
	w.put = append(w.put, byte(x))
}

// Fixed puts bytes.
func (w *Writer) Fixed(b []byte) {
	if w == nil {
		return
	}
	w.put = append(w.put, b...)
}

// Bytes puts how many bytes there are, and them.
func (w *Writer) Bytes(b []byte) {
	w.Uint(uint64(len(b)))
	w.Fixed(b)
}

// Bool puts yes or no.
func (w *Writer) Bool(is bool) {
	if is {
		w.Fixed([]byte{1})
		return
	}
	w.Fixed([]byte{0})
}

// Out are all bytes.
func (w *Writer) Out() []byte {
	if w == nil {
		return nil
	}
	return bytes.Clone(w.put)
}
