// Package read goes through bytes till the first error; behind it whatever is read is nothing.
package read

import (
	"noria/api"
	"noria/num"
)

// Reader: where in some bytes one is, and the first error.
type Reader struct {
	b    []byte
	from int
	at   int
	err  api.Errno
}

// New answers a Reader of b from at on.
func New(b []byte, at int) *Reader {
	r := &Reader{b: b, from: at, at: at}
	if at < 0 || at > len(b) {
		r.err = api.ErrArg
	}
	return r
}

// Err answers the first error.
func (r *Reader) Err() api.Errno {
	return r.err
}

// Read answers how many bytes have been read.
func (r *Reader) Read() int {
	return r.at - r.from
}

// Left answers how many bytes are still to be read.
func (r *Reader) Left() int {
	if r.err != api.OK {
		return 0
	}
	return len(r.b) - r.at
}

// Fail makes e the error, where there was none.
func (r *Reader) Fail(e api.Errno) {
	if r.err == api.OK {
		r.err = e
	}
}

// Need makes e the error where ok does not hold.
func (r *Reader) Need(ok bool, e api.Errno) {
	if !ok {
		r.Fail(e)
	}
}

// Byte reads one byte.
func (r *Reader) Byte() byte {
	r.Need(r.Left() > 0, api.ErrShort)
	if r.err != api.OK {
		return 0
	}
	r.at++
	return r.b[r.at-1]
}

// Text reads n bytes.
func (r *Reader) Text(n uint64) string {
	r.Need(n <= uint64(r.Left()), api.ErrShort)
	if r.err != api.OK {
		return ""
	}
	r.at += int(n)
	return string(r.b[r.at-int(n) : r.at])
}

// Num reads a number.
func (r *Reader) Num() uint64 {
	return Of(r, num.Get)
}

// Of reads what get tells of.
func Of[T any](r *Reader, get func(b []byte, at int) (T, int, api.Errno)) T {
	var none T
	if r.err != api.OK {
		return none
	}
	v, n, e := get(r.b, r.at)
	if e != api.OK {
		r.err = e
		return none
	}
	r.at += n
	return v
}
