package strand

import "pasodoble/api"

// Writer writes.
type Writer struct {
	fault
	most    int
	written []byte
}

// NewWriter answers a writer of at most so many bytes; below 0 counts as 0.
func NewWriter(most int) *Writer { return &Writer{most: max(most, 0)} }

// closed answers whether nothing is written any more.
func (w *Writer) closed() bool { return w == nil || w.wrong() }

// write adds all of list, or nothing if it has no room.
func (w *Writer) write(where string, list ...byte) {
	if w.closed() {
		return
	}
	if len(list) > w.most-len(w.written) {
		w.fail(where, api.ErrLong)
		return
	}
	w.written = append(w.written, list...)
}

// Byte writes a byte; one that isn't from 0 to 255 is ErrArg.
func (w *Writer) Byte(n int) {
	if w.closed() {
		return
	}
	if n < 0 || n > lastByte {
		w.fail("byte", api.ErrArg)
		return
	}
	w.write("byte", byte(n))
}

// Count writes a number from 0 on; one below 0 is ErrArg.
func (w *Writer) Count(n int) {
	if w.closed() {
		return
	}
	if n < 0 {
		w.fail("count", api.ErrArg)
		return
	}
	w.write("count", groups(uint64(n))...)
}

// Num writes any number.
func (w *Writer) Num(n int) { w.write("num", groups(fold(n))...) }

// Text writes the count of a text's bytes, then the bytes.
func (w *Writer) Text(s string) { w.write("text", append(groups(uint64(len(s))), s...)...) }

// Bits writes a set.
func (w *Writer) Bits(m api.Mask) { w.write("bits", groups(uint64(m))...) }

// Flags writes eight flags a byte. How many there are isn't written: who reads them says it.
func (w *Writer) Flags(l ...bool) {
	list := make([]byte, flagBytes(len(l)))
	for i, flag := range l {
		if flag {
			list[i/flagsOfByte] |= 1 << (i % flagsOfByte)
		}
	}
	w.write("flags", list...)
}

// Bytes answers what was written, or the first error.
func (w *Writer) Bytes() (string, error) {
	if w == nil {
		return "", api.ErrNil
	}
	if w.wrong() {
		return "", w.told()
	}
	return string(w.written), nil
}
