package strand_test

import (
	"errors"
	"math"
	"math/rand"
	"slices"
	"strings"
	"testing"

	"pasodoble/api"
	"pasodoble/blame"
	"pasodoble/strand"
)

// zeroes are all calls that read, each answering whether it answered the zero value.
func zeroes() []func(*strand.Reader) bool {
	return []func(*strand.Reader) bool{
		func(r *strand.Reader) bool { return r.Byte() == 0 },
		func(r *strand.Reader) bool { return r.Count() == 0 },
		func(r *strand.Reader) bool { return r.Num() == 0 },
		func(r *strand.Reader) bool { return r.Text(99) == "" },
		func(r *strand.Reader) bool { return r.Bits() == 0 },
		func(r *strand.Reader) bool { return len(r.Flags(1)) == 0 },
		func(r *strand.Reader) bool { return len(r.Flags(0)) == 0 },
		func(r *strand.Reader) bool { return r.Text(-1) == "" },
		func(r *strand.Reader) bool { return len(r.Flags(-1)) == 0 },
	}
}

// wantRefused asks that a call on the bytes s answers the zero value, takes nothing, and that the reader stays wrong.
func wantRefused(t *testing.T, name, s string, zero func(*strand.Reader) bool) {
	t.Helper()
	r := strand.NewReader(s)
	if !zero(r) {
		t.Errorf("%s: %.20q: answered something", name, s)
	}
	wantStuck(t, name, r, len(s))
}

// wantStuck asks that a reader is wrong with so many bytes left, and stays so whatever is called.
func wantStuck(t *testing.T, name string, r *strand.Reader, left int) {
	t.Helper()
	for i, zero := range zeroes() {
		if err := r.End(); r.Left() != left || !errors.Is(err, api.ErrForm) || len(blame.Leaves(err)) != 1 {
			t.Errorf("%s: ahead of call %d: left %d, want %d, %v", name, i, r.Left(), left, err)
		}
		if !zero(r) {
			t.Errorf("%s: call %d answers something", name, i)
		}
	}
	if r.Left() != left || !errors.Is(r.End(), api.ErrForm) {
		t.Errorf("%s: at the end: left %d, want %d, %v", name, r.Left(), left, r.End())
	}
}

// wantAll asks that a reader isn't wrong and has so many bytes left.
func wantAll(t *testing.T, name string, r *strand.Reader, left int) {
	t.Helper()
	err := r.End()
	if r.Left() != left || (err == nil) != (left == 0) || left > 0 && !errors.Is(err, api.ErrForm) {
		t.Errorf("%s: left %d, want %d, %v", name, r.Left(), left, err)
	}
}

func readCount(r *strand.Reader) bool { return r.Count() == 0 }
func readNum(r *strand.Reader) bool   { return r.Num() == 0 }
func readBits(r *strand.Reader) bool  { return r.Bits() == 0 }

func readText(most int) func(*strand.Reader) bool {
	return func(r *strand.Reader) bool { return r.Text(most) == "" }
}

func readFlags(n int) func(*strand.Reader) bool {
	return func(r *strand.Reader) bool { return len(r.Flags(n)) == 0 }
}

func TestP2_2_Byte(t *testing.T) {
	for n := range 256 {
		r := strand.NewReader(string([]byte{byte(n), 1}))
		if got := r.Byte(); got != n {
			t.Errorf("byte %d: %d", n, got)
		}
		wantAll(t, "byte", r, 1)
	}
	wantRefused(t, "no byte", "", func(r *strand.Reader) bool { return r.Byte() == 0 })
}

func TestP2_2_Count(t *testing.T) {
	for _, n := range edges() {
		if n < 0 {
			continue
		}
		r := strand.NewReader(countOf(uint64(n)) + "\x00")
		if got := r.Count(); got != n {
			t.Errorf("count %d: %d", n, got)
		}
		wantAll(t, "count", r, 1)
	}
	for _, n := range []uint64{1 << 63, 1<<63 + 1, math.MaxUint64} {
		wantRefused(t, "a count above 2^63 - 1", countOf(n), readCount)
	}
}

func TestP2_2_Num(t *testing.T) {
	for _, n := range edges() {
		r := strand.NewReader(numOf(n) + "\x00")
		if got := r.Num(); got != n {
			t.Errorf("number %d: %d", n, got)
		}
		wantAll(t, "number", r, 1)
	}
}

func TestP2_2_Bits(t *testing.T) {
	for _, m := range []api.Mask{0, 1, 127, 128, 1 << 31, math.MaxUint32 - 1, math.MaxUint32} {
		r := strand.NewReader(countOf(uint64(m)) + "\x00")
		if got := r.Bits(); got != m {
			t.Errorf("set %d: %d", m, got)
		}
		wantAll(t, "set", r, 1)
	}
	for _, n := range []uint64{1 << 32, 1<<32 + 1, 1 << 40, 1<<63 - 1, 1 << 63, math.MaxUint64} {
		wantRefused(t, "a set above 2^32 - 1", countOf(n), readBits)
	}
}

func TestP2_2_Other_forms(t *testing.T) {
	nine := strings.Repeat("\xff", 9)
	for name, s := range map[string]string{
		"no group":                       "",
		"cut off":                        "\x80",
		"cut off, not 0":                 "\x81",
		"cut off behind nine":            nine,
		"a last group that is 0":         "\x80\x00",
		"a last group that is 0, behind": "\x81\x00",
		"a tenth group that is 0":        nine + "\x00",
		"a tenth group of two bits":      nine + "\x02",
		"a tenth group of three":         nine + "\x03",
		"a tenth group, the highest bit": nine + "\x7f",
		"a group too many":               nine + "\x81\x00",
		"a group too many, not 0":        nine + "\x80\x01",
		"groups without end":             strings.Repeat("\x80", 40),
	} {
		wantRefused(t, "count: "+name, s, readCount)
		wantRefused(t, "number: "+name, s, readNum)
		wantRefused(t, "set: "+name, s, readBits)
		wantRefused(t, "text: "+name, s, readText(math.MaxInt))
	}
}

func TestP2_2_Text(t *testing.T) {
	for _, n := range []int{0, 1, 127, 128, 1 << 14} {
		s := strings.Repeat("a", n)
		bytes := countOf(uint64(n)) + s
		for _, most := range []int{n, n + 1, math.MaxInt} {
			r := strand.NewReader(bytes + "z")
			if got := r.Text(most); got != s {
				t.Errorf("text of %d bytes, most %d: %.20q", n, most, got)
			}
			wantAll(t, "text", r, 1)
		}
		for _, most := range []int{n - 1, -1, math.MinInt} {
			wantRefused(t, "a text of more than most bytes", bytes, readText(most))
		}
		if n > 0 {
			wantRefused(t, "a text cut off", bytes[:len(bytes)-1], readText(n))
			wantRefused(t, "a text without its bytes", countOf(uint64(n)), readText(n))
		}
	}
	for _, n := range []uint64{1<<63 - 1, 1 << 63, math.MaxUint64} {
		wantRefused(t, "a text of endless bytes", countOf(n)+"abc", readText(math.MaxInt))
	}
}

func TestP2_2_Flags(t *testing.T) {
	for _, n := range []int{0, 1, 7, 8, 9, 15, 16, 17, maxFlags - 1, maxFlags} {
		for i := range min(n, 20) {
			bytes := make([]byte, (n+7)/8)
			at := (i * 7919) % n
			bytes[at/8] = 1 << (at % 8)
			r := strand.NewReader(string(bytes) + "z")
			if got := r.Flags(n); !slices.Equal(got, flagsOf(n, at)) {
				t.Errorf("%d flags, the %dth: wrong", n, at)
			}
			wantAll(t, "flags", r, 1)
		}
	}
	r := strand.NewReader("z")
	if got := r.Flags(0); len(got) != 0 {
		t.Error("no flags", got)
	}
	wantAll(t, "no flags", r, 1)
	room := strings.Repeat("\x00", maxFlags)
	for _, n := range []int{-1, -8, math.MinInt, maxFlags + 1, maxFlags + 8, 1 << 40, math.MaxInt} {
		wantRefused(t, "no number of flags", room, readFlags(n))
		wantRefused(t, "no number of flags, no bytes", "", readFlags(n))
	}
	for _, n := range []int{1, 8, 9, 16, 17, maxFlags} {
		wantRefused(t, "flags cut off", room[:(n+7)/8-1], readFlags(n))
	}
}

func TestP2_2_Flags_left_over(t *testing.T) {
	for n := 1; n <= 16; n++ {
		for bit := n; bit < (n+7)/8*8; bit++ {
			bytes := make([]byte, (n+7)/8)
			bytes[bit/8] = 1 << (bit % 8)
			wantRefused(t, "a bit left over", string(bytes)+"\x00", readFlags(n))
		}
	}
}

func TestP2_2_Flags_new(t *testing.T) {
	r := strand.NewReader("\x01\x01")
	a := r.Flags(2)
	b := r.Flags(2)
	a[0] = false
	if !b[0] || cap(a) > 2 && a[:3][2] {
		t.Error("two answers share memory")
	}
}

func TestP2_2_Behind_the_first_error(t *testing.T) {
	for i, zero := range zeroes() {
		r := strand.NewReader("\x07\x80\x00\x01")
		if r.Byte() != 7 || r.Count() != 0 {
			t.Error("reads")
		}
		if !zero(r) {
			t.Errorf("call %d behind an error answers something", i)
		}
		wantStuck(t, "behind an error", r, 3)
	}
	r := strand.NewReader("")
	r.Text(1)
	wantStuck(t, "wrong with nothing left", r, 0)
}

func TestP2_2_End(t *testing.T) {
	r := strand.NewReader("ab")
	wantAll(t, "nothing taken", r, 2)
	r.Byte()
	wantAll(t, "one taken", r, 1)
	if r.Byte() != 'b' {
		t.Error("asked for its end, it reads on")
	}
	wantAll(t, "all taken", r, 0)
	wantAll(t, "no bytes at all", strand.NewReader(""), 0)
}

func TestP2_2_Nil(t *testing.T) {
	var r *strand.Reader
	for i, zero := range zeroes() {
		if !zero(r) || r.Left() != 0 {
			t.Errorf("call %d of nil answers something", i)
		}
		if err := r.End(); !errors.Is(err, api.ErrNil) || len(blame.Leaves(err)) != 1 {
			t.Error(err)
		}
	}
}

// step is a thing that is written and read.
type step struct {
	put  func(*strand.Writer)
	same func(*strand.Reader) bool
}

func randomStep(rnd *rand.Rand) step {
	n := int(rnd.Uint64()) >> rnd.Intn(64)
	switch rnd.Intn(6) {
	case 0:
		return step{putByte(n & 255), func(r *strand.Reader) bool { return r.Byte() == n&255 }}
	case 1:
		return step{putCount(n & math.MaxInt), func(r *strand.Reader) bool { return r.Count() == n&math.MaxInt }}
	case 2:
		return step{putNum(n), func(r *strand.Reader) bool { return r.Num() == n }}
	case 3:
		s := strings.Repeat("\x80", rnd.Intn(200))
		return step{putText(s), func(r *strand.Reader) bool { return r.Text(len(s)) == s }}
	case 4:
		return step{putBits(api.Mask(n)), func(r *strand.Reader) bool { return r.Bits() == api.Mask(n) }}
	}
	l := make([]bool, rnd.Intn(30))
	for i := range l {
		l[i] = rnd.Intn(2) == 0
	}
	return step{putFlags(l...), func(r *strand.Reader) bool { return slices.Equal(r.Flags(len(l)), l) }}
}

func TestP2_3_Read_as_written(t *testing.T) {
	rnd := rand.New(rand.NewSource(1))
	for range 2000 {
		w := strand.NewWriter(1 << 14)
		var steps []step
		apart := ""
		for range rnd.Intn(20) {
			s := randomStep(rnd)
			steps = append(steps, s)
			s.put(w)
			alone, _ := write(1<<14, s.put).Bytes()
			apart += alone
		}
		s, err := w.Bytes()
		if err != nil || s != apart {
			t.Fatalf("%v: written together %q, apart %q", err, s, apart)
		}
		r := strand.NewReader(s)
		for i, step := range steps {
			if !step.same(r) {
				t.Fatalf("%q: step %d is read otherwise", s, i)
			}
		}
		wantAll(t, "read as written", r, 0)
	}
}

// again reads what stands next by a call of any kind, and writes it.
func again(rnd *rand.Rand, r *strand.Reader, w *strand.Writer) {
	switch rnd.Intn(6) {
	case 0:
		w.Byte(r.Byte())
	case 1:
		w.Count(r.Count())
	case 2:
		w.Num(r.Num())
	case 3:
		w.Text(r.Text(rnd.Intn(5)))
	case 4:
		w.Bits(r.Bits())
	case 5:
		w.Flags(r.Flags(rnd.Intn(20))...)
	}
}

func TestP2_3_Written_as_read(t *testing.T) {
	rnd := rand.New(rand.NewSource(2))
	likely := "\x00\x01\x02\x7f\x80\x81\xff"
	whole := 0
	for range 20000 {
		bytes := make([]byte, 1+rnd.Intn(14))
		for i := range bytes {
			bytes[i] = likely[rnd.Intn(len(likely))]
		}
		r := strand.NewReader(string(bytes))
		w := strand.NewWriter(len(bytes))
		for left := 0; r.Left() != left; {
			left = r.Left()
			again(rnd, r, w)
			if r.Left() < left {
				wantBytes(t, "written as read", w, string(bytes[:len(bytes)-r.Left()]))
			}
		}
		if r.Left() == 0 {
			whole++
		}
	}
	if whole < 1000 {
		t.Error("too few were read to the end:", whole)
	}
}
