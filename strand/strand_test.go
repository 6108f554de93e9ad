package strand_test

import (
	"errors"
	"math"
	"math/big"
	"slices"
	"strings"
	"testing"

	"pasodoble/api"
	"pasodoble/blame"
	"pasodoble/strand"
)

const maxFlags = 1 << 16

// write makes a writer of most bytes and lets calls write to it.
func write(most int, calls ...func(*strand.Writer)) *strand.Writer {
	w := strand.NewWriter(most)
	for _, call := range calls {
		call(w)
	}
	return w
}

func putByte(n int) func(*strand.Writer)      { return func(w *strand.Writer) { w.Byte(n) } }
func putCount(n int) func(*strand.Writer)     { return func(w *strand.Writer) { w.Count(n) } }
func putNum(n int) func(*strand.Writer)       { return func(w *strand.Writer) { w.Num(n) } }
func putText(s string) func(*strand.Writer)   { return func(w *strand.Writer) { w.Text(s) } }
func putBits(m api.Mask) func(*strand.Writer) { return func(w *strand.Writer) { w.Bits(m) } }
func putFlags(l ...bool) func(*strand.Writer) { return func(w *strand.Writer) { w.Flags(l...) } }

func wantBytes(t *testing.T, name string, w *strand.Writer, want string) {
	t.Helper()
	if got, err := w.Bytes(); got != want || err != nil {
		t.Errorf("%s: %q, %v, want %q", name, got, err, want)
	}
}

// wantWrong asks that the writer tells just this one of the named errors, and nothing written.
func wantWrong(t *testing.T, name string, w *strand.Writer, want error) {
	t.Helper()
	got, err := w.Bytes()
	if got != "" || !errors.Is(err, want) || len(blame.Leaves(err)) != 1 {
		t.Errorf("%s: %q, %v %v, want %v", name, got, err, blame.Leaves(err), want)
	}
}

// groupsOf is the groups of a number by the chapter's words, made another way than the program's.
func groupsOf(n *big.Int) string {
	var list []byte
	for _, digit := range []byte(new(big.Int).Abs(n).Text(2)) {
		list = append(list, digit-'0')
	}
	slices.Reverse(list)
	var out []byte
	for seven := range slices.Chunk(list, 7) {
		group := byte(128)
		for i, bit := range seven {
			group += bit << i
		}
		out = append(out, group)
	}
	out[len(out)-1] -= 128
	return string(out)
}

func countOf(n uint64) string { return groupsOf(new(big.Int).SetUint64(n)) }

func numOf(n int) string {
	twice := new(big.Int).Mul(big.NewInt(int64(n)), big.NewInt(2))
	if n < 0 {
		twice.Neg(twice).Sub(twice, big.NewInt(1))
	}
	return groupsOf(twice)
}

// edges are numbers at both ends of 64 bits, and those around each group's end.
func edges() []int {
	list := []int{0, math.MaxInt, math.MinInt, math.MinInt + 1, math.MaxInt - 1, 300}
	for shift := range 63 {
		for near := -2; near <= 2; near++ {
			list = append(list, 1<<shift+near, -1<<shift+near)
		}
	}
	return list
}

func flagsOf(n int, set ...int) []bool {
	list := make([]bool, n)
	for _, i := range set {
		list[i] = true
	}
	return list
}

func TestP2_1_Examples(t *testing.T) {
	wantBytes(t, "Num(-1)", write(9, putNum(-1)), "\x01")
	wantBytes(t, "Count(300)", write(9, putCount(300)), "\xac\x02")
	wantBytes(t, `Text("ab")`, write(9, putText("ab")), "\x02ab")
	wantBytes(t, "Flags(true, false, true)", write(9, putFlags(true, false, true)), "\x05")
}

func TestP2_1_Byte(t *testing.T) {
	for n := range 256 {
		wantBytes(t, "byte", write(1, putByte(n)), string([]byte{byte(n)}))
	}
	for _, n := range []int{-1, 256, -255, -256, 257, 1 << 8, 1 << 32, math.MaxInt, math.MinInt} {
		wantWrong(t, "byte that is none", write(9, putByte(n)), api.ErrArg)
	}
}

func TestP2_1_Count(t *testing.T) {
	for _, n := range edges() {
		if n >= 0 {
			wantBytes(t, "count", write(10, putCount(n)), countOf(uint64(n)))
		} else {
			wantWrong(t, "count below 0", write(10, putCount(n)), api.ErrArg)
		}
	}
	wantBytes(t, "greatest count", write(9, putCount(math.MaxInt)), strings.Repeat("\xff", 8)+"\x7f")
}

func TestP2_1_Num(t *testing.T) {
	for _, n := range edges() {
		wantBytes(t, "number", write(10, putNum(n)), numOf(n))
	}
	wantBytes(t, "greatest", write(10, putNum(math.MaxInt)), "\xfe"+strings.Repeat("\xff", 8)+"\x01")
	wantBytes(t, "least", write(10, putNum(math.MinInt)), strings.Repeat("\xff", 9)+"\x01")
}

func TestP2_1_Text(t *testing.T) {
	for _, n := range []int{0, 1, 127, 128, 129, 1 << 14, 1<<14 - 1} {
		s := strings.Repeat("\xfe", n)
		want := countOf(uint64(n)) + s
		wantBytes(t, "text", write(len(want), putText(s)), want)
		wantWrong(t, "text with a byte too little room", write(len(want)-1, putText(s)), api.ErrLong)
	}
	wantBytes(t, "any bytes", write(9, putText("\x00\xff\x80é")), "\x05\x00\xff\x80é")
}

func TestP2_1_Bits(t *testing.T) {
	for _, m := range []api.Mask{0, 1, 127, 128, 1 << 16, 1<<31 | 1, math.MaxUint32, math.MaxUint32 - 1} {
		wantBytes(t, "set", write(5, putBits(m)), countOf(uint64(m)))
	}
	wantBytes(t, "greatest set", write(5, putBits(math.MaxUint32)), "\xff\xff\xff\xff\x0f")
}

func TestP2_1_Flags(t *testing.T) {
	wantBytes(t, "none", write(0, putFlags()), "")
	for i := range 24 {
		want := make([]byte, 3)
		want[i/8] = 1 << (i % 8)
		wantBytes(t, "one of 24", write(3, putFlags(flagsOf(24, i)...)), string(want))
	}
	wantBytes(t, "8", write(9, putFlags(flagsOf(8, 0, 7)...)), "\x81")
	wantBytes(t, "9", write(9, putFlags(flagsOf(9, 0, 8)...)), "\x01\x01")
	wantBytes(t, "9 without", write(9, putFlags(flagsOf(9)...)), "\x00\x00")
	many := flagsOf(maxFlags, maxFlags-1)
	wantBytes(t, "2^16", write(maxFlags/8, putFlags(many...)), strings.Repeat("\x00", maxFlags/8-1)+"\x80")
	wantWrong(t, "2^16 with too little room", write(maxFlags/8-1, putFlags(many...)), api.ErrLong)
	one := flagsOf(maxFlags+1, maxFlags)
	wantBytes(t, "2^16 + 1", write(maxFlags, putFlags(one...)), strings.Repeat("\x00", maxFlags/8)+"\x01")
}

func TestP2_1_Flags_not_kept(t *testing.T) {
	l := flagsOf(3, 0)
	w := write(9, putFlags(l...))
	if !slices.Equal(l, flagsOf(3, 0)) {
		t.Error("changed", l)
	}
	l[1] = true
	wantBytes(t, "flags", w, "\x01")
}

func TestP2_1_Behind(t *testing.T) {
	w := write(40, putByte(7), putCount(128), putNum(-65), putText("hi"), putBits(3), putFlags(true), putText(""), putByte(0))
	want := "\x07\x80\x01\x81\x01\x02hi\x03\x01\x00\x00"
	wantBytes(t, "each behind the other", w, want)
	wantBytes(t, "asked again", w, want)
	w.Byte('z')
	wantBytes(t, "written behind being asked", w, want+"z")
}

func TestP2_1_Room(t *testing.T) {
	for _, most := range []int{0, -1, -256, math.MinInt} {
		wantBytes(t, "no room, nothing written", write(most, putFlags()), "")
		for i, put := range []func(*strand.Writer){putByte(0), putCount(0), putNum(0), putText(""), putBits(0), putFlags(false)} {
			wantWrong(t, "no room, call "+string(rune('0'+i)), write(most, put), api.ErrLong)
		}
	}
	full := write(3, putByte(1), putByte(2), putByte(3))
	wantBytes(t, "full", full, "\x01\x02\x03")
	full.Flags()
	wantBytes(t, "full, no flags", full, "\x01\x02\x03")
	full.Byte(4)
	wantWrong(t, "one byte more", full, api.ErrLong)
	wantBytes(t, "the rest by one call", write(5, putByte(1), putText("abc")), "\x01\x03abc")
	wantWrong(t, "one byte more by one call", write(4, putByte(1), putText("abc")), api.ErrLong)
	wantBytes(t, "endless", write(math.MaxInt, putText("abc")), "\x03abc")
}

func TestP2_1_First_error_stays(t *testing.T) {
	all := []func(*strand.Writer){
		putByte(1), putCount(1), putNum(1), putText("a"), putBits(1), putFlags(true), putFlags(),
		putByte(-1), putCount(-1), putText(strings.Repeat("a", 99)),
	}
	for _, put := range all {
		wantWrong(t, "behind a byte that is none", write(9, putByte(256), put), api.ErrArg)
		wantWrong(t, "behind a count that is none", write(9, putCount(-1), put), api.ErrArg)
		wantWrong(t, "behind too much", write(9, putText("123456789"), put), api.ErrLong)
		wantWrong(t, "behind too much, with room for less", write(3, putByte(1), putText("123"), put), api.ErrLong)
	}
	wantWrong(t, "a byte that is none has no room either", write(0, putByte(256)), api.ErrArg)
	wantWrong(t, "a count that is none has no room either", write(0, putCount(-1)), api.ErrArg)
}

func TestP2_1_Told_error_is_new(t *testing.T) {
	w := write(9, putByte(-1))
	_, err := w.Bytes()
	var b *blame.Blame
	if !errors.As(err, &b) {
		t.Fatalf("%T isn't wrapped", err)
	}
	b.Err = nil
	wantWrong(t, "behind a change of what was told", w, api.ErrArg)

	r := strand.NewReader("")
	r.Byte()
	if !errors.As(r.End(), &b) {
		t.Fatalf("%T isn't wrapped", r.End())
	}
	b.Err = nil
	if !errors.Is(r.End(), api.ErrForm) {
		t.Error(r.End())
	}
}

func TestP2_1_Nil(t *testing.T) {
	var w *strand.Writer
	for _, put := range []func(*strand.Writer){putByte(1), putByte(-1), putCount(1), putCount(-1), putNum(1), putText("a"), putBits(1), putFlags(true), putFlags()} {
		put(w)
		wantWrong(t, "nil", w, api.ErrNil)
	}
}

func TestP2_1_Apart(t *testing.T) {
	a, b := strand.NewWriter(2), strand.NewWriter(2)
	a.Byte(1)
	b.Byte(-1)
	wantBytes(t, "one beside a wrong one", a, "\x01")
	wantWrong(t, "the wrong one", b, api.ErrArg)
}
