// Package codec is layer 1: numbers, whole numbers and texts as bytes. See shared/doc/01-codec.md.
package codec

import "folkmoot/api"

const (
	numberBytes = 4
	intBytes    = 8
)

// PutNumber is P1.1.
func PutNumber(b []byte, n int) ([]byte, api.Errno) {
	if n < 0 || n > api.MaxNumber {
		return nil, api.ErrArg
	}
	out := widen(b, numberBytes)
	cut(out[len(b):], uint64(n))
	return out, api.OK
}

// PutInt is P1.2.
func PutInt(b []byte, n int) []byte {
	out := widen(b, intBytes)
	cut(out[len(b):], uint64(n)) // wraps round: below 0 it is n and 2 to the power of 64
	return out
}

// PutText is P1.2.
func PutText(b []byte, s string) ([]byte, api.Errno) {
	if len(s) > api.MaxText {
		return nil, api.ErrLimit
	}
	out := widen(b, numberBytes+len(s))
	end := len(b) + numberBytes
	cut(out[len(b):end], uint64(len(s)))
	copy(out[end:], s)
	return out, api.OK
}

// Reader reads bytes from the front.
type Reader struct {
	rest []byte // what is not read yet
}

// New is P1.3.
func New(b []byte) *Reader {
	return &Reader{rest: widen(b, 0)}
}

// Number is P1.3.
func (r *Reader) Number() (int, api.Errno) {
	if r == nil {
		return 0, api.ErrNil
	}
	n, code := r.peekNumber(api.MaxNumber)
	if code != api.OK {
		return 0, code
	}
	r.rest = r.rest[numberBytes:]
	return n, api.OK
}

// Int is P1.3.
func (r *Reader) Int() (int, api.Errno) {
	if r == nil {
		return 0, api.ErrNil
	}
	if len(r.rest) < intBytes {
		return 0, api.ErrCodecEnd
	}
	n := int(join(r.rest[:intBytes])) // wraps round, as PutInt does
	r.rest = r.rest[intBytes:]
	return n, api.OK
}

// Text is P1.3.
func (r *Reader) Text() (string, api.Errno) {
	if r == nil {
		return "", api.ErrNil
	}
	size, code := r.peekNumber(api.MaxText)
	if code != api.OK {
		return "", code
	}
	end := numberBytes + size
	if len(r.rest) < end {
		return "", api.ErrCodecEnd
	}
	s := string(r.rest[numberBytes:end])
	r.rest = r.rest[end:]
	return s, api.OK
}

// Left is P1.3.
func (r *Reader) Left() int {
	if r == nil {
		return 0
	}
	return len(r.rest)
}

// peekNumber tells the number that comes next, but leaves the reader where it stands: a text's length is given up again if the text isn't whole.
func (r *Reader) peekNumber(most uint64) (int, api.Errno) {
	if len(r.rest) < numberBytes {
		return 0, api.ErrCodecEnd
	}
	n := join(r.rest[:numberBytes])
	if n > most {
		return 0, api.ErrCodecForm
	}
	return int(n), api.OK
}

// widen answers b's bytes in new memory, with as many more behind them as room says: b's own spare room may be its giver's.
func widen(b []byte, room int) []byte {
	out := make([]byte, len(b)+room)
	copy(out, b)
	return out
}

// cut fills b with n's bytes, the lowest first.
func cut(b []byte, n uint64) {
	for i := range len(b) {
		b[i] = byte(n >> (8 * i))
	}
}

// join is the number of which cut makes b.
func join(b []byte) uint64 {
	var n uint64
	for i := range len(b) {
		n |= uint64(b[i]) << (8 * i)
	}
	return n
}
