package strand

import (
	"math"

	"pasodoble/api"
	"pasodoble/blame"
)

// maxFlags is how many flags are read at once at most.
const maxFlags = 1 << 16

// Reader reads.
type Reader struct {
	fault
	rest string
}

// NewReader answers a reader of all bytes of s.
func NewReader(s string) *Reader { return &Reader{rest: s} }

// closed answers whether nothing is read any more.
func (r *Reader) closed() bool { return r == nil || r.wrong() }

// refuse says that what was asked for doesn't stand next.
func (r *Reader) refuse(where string) { r.fail(where, api.ErrForm) }

// take answers the next n bytes, of which there must be as many, and goes behind them.
func (r *Reader) take(n int) string {
	taken := r.rest[:n]
	r.rest = r.rest[n:]
	return taken
}

// Byte answers the next byte.
func (r *Reader) Byte() int {
	if r.closed() {
		return 0
	}
	if r.rest == "" {
		r.refuse("byte")
		return 0
	}
	return int(r.take(1)[0])
}

// number answers the next number, which may be most at most.
func (r *Reader) number(where string, most uint64) uint64 {
	if r.closed() {
		return 0
	}
	n, size := ungroup(r.rest)
	if size == 0 || n > most {
		r.refuse(where)
		return 0
	}
	r.take(size)
	return n
}

// Count answers the next number from 0 on.
func (r *Reader) Count() int { return int(r.number("count", math.MaxInt64)) }

// Num answers the next number of any sign.
func (r *Reader) Num() int { return unfold(r.number("num", math.MaxUint64)) }

// Text answers the next text, of at most most bytes: below 0 there is none.
func (r *Reader) Text(most int) string {
	if r.closed() {
		return ""
	}
	n, size := ungroup(r.rest)
	// The count is held against both ahead of taking anything: a text that isn't there leaves its count too.
	if size == 0 || most < 0 || n > uint64(most) || n > uint64(len(r.rest)-size) {
		r.refuse("text")
		return ""
	}
	r.take(size)
	return r.take(int(n))
}

// Bits answers the next set.
func (r *Reader) Bits() api.Mask { return api.Mask(r.number("bits", math.MaxUint32)) }

// Flags answers the next n flags, and takes the bytes that they stand in.
func (r *Reader) Flags(n int) []bool {
	if r.closed() {
		return nil
	}
	if n < 0 || n > maxFlags || flagBytes(n) > len(r.rest) || leftOver(r.rest, n) {
		r.refuse("flags")
		return nil
	}
	taken := r.take(flagBytes(n))
	flags := make([]bool, n)
	for i := range flags {
		flags[i] = taken[i/flagsOfByte]>>(i%flagsOfByte)%2 == 1
	}
	return flags
}

// leftOver answers whether a bit behind the nth flag is set in its byte, so that the flags would have been written otherwise.
func leftOver(s string, n int) bool {
	used := n % flagsOfByte
	return used > 0 && s[n/flagsOfByte]>>used > 0
}

// Left answers how many bytes aren't taken.
func (r *Reader) Left() int {
	if r == nil {
		return 0
	}
	return len(r.rest)
}

// End answers whether all bytes were taken, and nothing was wrong.
func (r *Reader) End() error {
	if r == nil {
		return api.ErrNil
	}
	if r.wrong() {
		return r.told()
	}
	if r.rest != "" {
		return blame.At("end", api.ErrForm)
	}
	return nil
}
