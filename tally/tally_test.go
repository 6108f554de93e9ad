package tally_test

import (
	"encoding/binary"
	"hash/fnv"
	"math"
	"math/big"
	"slices"
	"strings"
	"testing"

	"pasodoble/tally"
)

// ofNothing is the sum that the chapter begins with.
const ofNothing uint64 = 14695981039346656037

// spelt is the sum by the chapter's words, in numbers without an end, made another way than the program's.
func spelt(s string) uint64 {
	whole := new(big.Int).Lsh(big.NewInt(1), 64)
	sum, _ := new(big.Int).SetString("14695981039346656037", 10)
	for _, b := range []byte(s) {
		sum.Xor(sum, big.NewInt(int64(b)))
		sum.Mul(sum, big.NewInt(1099511628211))
		sum.Mod(sum, whole)
	}
	return sum.Uint64()
}

// bytesOf is a number's bytes by the chapter's words: of one below 0 those of 2^64 and it together.
func bytesOf(n int) string {
	number := big.NewInt(int64(n))
	if n < 0 {
		number.Add(number, new(big.Int).Lsh(big.NewInt(1), 64))
	}
	list := number.FillBytes(make([]byte, 8))
	slices.Reverse(list)
	return string(list)
}

// sumBytes is the bytes of a sum as a number.
func sumBytes(sum uint64) string {
	return string(binary.LittleEndian.AppendUint64(nil, sum))
}

// allBytes is each byte once.
func allBytes() string {
	var list []byte
	for b := range 256 {
		list = append(list, byte(b))
	}
	return string(list)
}

// texts are ordinary ones and those at the edges.
func texts() []string {
	return []string{
		"", "a", "b", "foobar", "\x00", "\x00\x00", "\xff", "\xff\xff", "\x00\xff", "\xff\x00",
		"\x7f\x80", "año", "\xc3", "no utf-8: \xc3\x28\xff", allBytes(),
		strings.Repeat("\x00", 1000), strings.Repeat("\xff", 1000), strings.Repeat("paso doble ", 300),
	}
}

// edges are numbers at both ends of 64 bits, and around each byte's end.
func edges() []int {
	list := []int{0, 1, -1, math.MinInt, math.MinInt + 1, math.MaxInt, math.MaxInt - 1, 0x0102030405060708, -0x0102030405060708}
	for shift := 7; shift < 63; shift++ {
		list = append(list, 1<<shift-1, 1<<shift, 1<<shift+1, -1<<shift-1, -1<<shift, -1<<shift+1)
	}
	return list
}

// sumsOf are sums to be mixed: small ones, those at the ends, and real ones.
func sumsOf() []uint64 {
	list := []uint64{0, 1, 2, 255, 256, 1 << 32, 1 << 63, math.MaxUint64, math.MaxUint64 - 1, ofNothing}
	for _, s := range texts() {
		list = append(list, spelt(s))
	}
	return list
}

// mixed is what Mix is by the chapter's words.
func mixed(sums ...uint64) uint64 {
	whole := new(big.Int).Lsh(big.NewInt(1), 64)
	total := new(big.Int)
	for _, sum := range sums {
		total.Add(total, new(big.Int).SetUint64(spelt(sumBytes(sum))))
	}
	return total.Mod(total, whole).Uint64()
}

func wantSum(t *testing.T, name string, got, want uint64) {
	t.Helper()
	if got != want {
		t.Errorf("%s: %d, want %d", name, got, want)
	}
}

func TestP3_1_New(t *testing.T) {
	x := tally.New()
	wantSum(t, "the sum of nothing", x.Sum(), ofNothing)
	x.Add("a")
	wantSum(t, "another new one", tally.New().Sum(), ofNothing)
	if tally.New() == tally.New() {
		t.Error("two new tallies are one")
	}
}

func TestP3_1_Add(t *testing.T) {
	all := tally.New()
	behind := ""
	for _, s := range texts() {
		x := tally.New()
		x.Add(s)
		wantSum(t, s, x.Sum(), spelt(s))
		all.Add(s)
		behind += s
		wantSum(t, "behind others: "+s, all.Sum(), spelt(behind))
	}
}

func TestP3_1_AddNothing(t *testing.T) {
	x := tally.New()
	x.Add("")
	wantSum(t, "nothing more", x.Sum(), ofNothing)
	x.Add("a")
	x.Add("")
	wantSum(t, "nothing behind a", x.Sum(), 12638187200555641996)
	x.Add("\x00")
	if x.Sum() == tally.Of("a") {
		t.Error("a byte of 0 is as nothing")
	}
}

func TestP3_1_Num(t *testing.T) {
	all := tally.New()
	behind := ""
	for _, n := range edges() {
		x := tally.New()
		x.Num(n)
		if got, want := x.Sum(), spelt(bytesOf(n)); got != want {
			t.Errorf("%d: %d, want %d", n, got, want)
		}
		all.Num(n)
		behind += bytesOf(n)
		if got, want := all.Sum(), spelt(behind); got != want {
			t.Errorf("%d behind others: %d, want %d", n, got, want)
		}
	}
}

func TestP3_1_NumBytes(t *testing.T) {
	for n, s := range map[int]string{
		0:                  "\x00\x00\x00\x00\x00\x00\x00\x00",
		1:                  "\x01\x00\x00\x00\x00\x00\x00\x00",
		256:                "\x00\x01\x00\x00\x00\x00\x00\x00",
		-1:                 "\xff\xff\xff\xff\xff\xff\xff\xff",
		-2:                 "\xfe\xff\xff\xff\xff\xff\xff\xff",
		math.MaxInt:        "\xff\xff\xff\xff\xff\xff\xff\x7f",
		math.MinInt:        "\x00\x00\x00\x00\x00\x00\x00\x80",
		0x0102030405060708: "\x08\x07\x06\x05\x04\x03\x02\x01",
	} {
		x := tally.New()
		x.Num(n)
		if got, want := x.Sum(), spelt(s); got != want {
			t.Errorf("%d: %d, want %d", n, got, want)
		}
	}
}

func TestP3_1_TextsAndNumbers(t *testing.T) {
	x := tally.New()
	x.Add("ab")
	x.Num(-3)
	x.Add("")
	x.Num(7)
	x.Add("\xff")
	wantSum(t, "texts and numbers", x.Sum(), spelt("ab"+bytesOf(-3)+bytesOf(7)+"\xff"))
}

func TestP3_1_SumChangesNothing(t *testing.T) {
	x := tally.New()
	x.Add("fo")
	first := x.Sum()
	wantSum(t, "asked again", x.Sum(), first)
	x.Add("obar")
	wantSum(t, "gone on", x.Sum(), 9625390261332436968)
}

func TestP3_1_TalliesApart(t *testing.T) {
	x, y := tally.New(), tally.New()
	x.Add("a")
	y.Num(1)
	x.Add("b")
	wantSum(t, "one", x.Sum(), spelt("ab"))
	wantSum(t, "the other one", y.Sum(), spelt(bytesOf(1)))
}

func TestP3_1_NilTally(t *testing.T) {
	var none *tally.Tally
	wantSum(t, "nil", none.Sum(), ofNothing)
	none.Add("a")
	none.Add("")
	none.Num(1)
	none.Num(math.MinInt)
	wantSum(t, "nil, to which was added", none.Sum(), ofNothing)
	wantSum(t, "a new one behind it", tally.New().Sum(), ofNothing)
}

func TestP3_1_Of(t *testing.T) {
	wantSum(t, "no parts", tally.Of(), ofNothing)
	wantSum(t, "a nil list", tally.Of([]string(nil)...), ofNothing)
	wantSum(t, "empty parts", tally.Of("", "", ""), ofNothing)
	wantSum(t, "a", tally.Of("a"), 12638187200555641996)
	for _, s := range texts() {
		wantSum(t, s, tally.Of(s), spelt(s))
		known := fnv.New64a()
		known.Write([]byte(s))
		wantSum(t, "as the library's: "+s, tally.Of(s), known.Sum64())
	}
	wantSum(t, "all of them", tally.Of(texts()...), spelt(strings.Join(texts(), "")))
}

func TestP3_1_OfManyParts(t *testing.T) {
	const many = 100000
	parts := slices.Repeat([]string{"x", "", "\x00", "yz"}, many/4)
	wantSum(t, "many parts", tally.Of(parts...), spelt(strings.Repeat("x\x00yz", many/4)))
}

func TestP3_1_OrderOfParts(t *testing.T) {
	if tally.Of("ab", "c") == tally.Of("c", "ab") {
		t.Error("parts in another order have the same sum")
	}
}

func TestP3_1_PartsAsTheyWere(t *testing.T) {
	parts := append(make([]string, 0, 8), "b", "", "a")
	room := parts[:8]
	was := slices.Clone(room)
	first := tally.Of(parts...)
	if !slices.Equal(room, was) {
		t.Error("the parts were changed:", room)
	}
	wantSum(t, "asked again", tally.Of(parts...), first)
}

func TestP3_2_Short(t *testing.T) {
	for s, want := range map[string]uint32{"a": 694300864, "foobar": 1923950233, "": 0xcbf29ce4 ^ 0x84222325} {
		if got := tally.Short(s); got != want {
			t.Errorf("%q: %d, want %d", s, got, want)
		}
	}
	for _, s := range texts() {
		sum := spelt(s)
		if got, want := tally.Short(s), uint32(sum%(1<<32)^sum/(1<<32)); got != want {
			t.Errorf("%q: %d, want %d", s, got, want)
		}
	}
}

func TestP3_2_Mix(t *testing.T) {
	wantSum(t, "no sums", tally.Mix(), 0)
	wantSum(t, "a nil list", tally.Mix([]uint64(nil)...), 0)
	wantSum(t, "1 and 2", tally.Mix(1, 2), 8109495759342386603)
	wantSum(t, "0", tally.Mix(0), spelt("\x00\x00\x00\x00\x00\x00\x00\x00"))
	wantSum(t, "1", tally.Mix(1), spelt("\x01\x00\x00\x00\x00\x00\x00\x00"))
	wantSum(t, "the greatest", tally.Mix(math.MaxUint64), 10157053723145373757)
	list := sumsOf()
	for i, sum := range list {
		wantSum(t, "one", tally.Mix(sum), spelt(sumBytes(sum)))
		wantSum(t, "those up to it", tally.Mix(list[:i+1]...), mixed(list[:i+1]...))
	}
}

func TestP3_2_MixMany(t *testing.T) {
	var list []uint64
	for i := range uint64(20000) {
		list = append(list, i*0x9e3779b97f4a7c15)
	}
	wantSum(t, "many sums", tally.Mix(list...), mixed(list...))
}

func TestP3_2_MixAsNumbers(t *testing.T) {
	for _, n := range edges() {
		x := tally.New()
		x.Num(n)
		wantSum(t, "a number's bytes", tally.Mix(uint64(n)), x.Sum())
	}
}

func TestP3_2_SumsAsTheyWere(t *testing.T) {
	list := append(make([]uint64, 0, 8), 9, 1, math.MaxUint64, 1)
	room := list[:8]
	was := slices.Clone(room)
	first := tally.Mix(list...)
	if !slices.Equal(room, was) {
		t.Error("the sums were changed:", room)
	}
	wantSum(t, "asked again", tally.Mix(list...), first)
}

// partings answers a text parted in every way: each bit of cuts is a place where it may be cut.
func partings(s string) [][]string {
	var ways [][]string
	for cuts := range 1 << (len(s) - 1) {
		var parts []string
		begin := 0
		for i := 1; i < len(s); i++ {
			if cuts>>(i-1)&1 == 1 {
				parts = append(parts, s[begin:i])
				begin = i
			}
		}
		ways = append(ways, append(parts, s[begin:]))
	}
	return ways
}

func TestP3_3_Parted(t *testing.T) {
	for _, s := range []string{"foobar", "\x00\x00\x00\xff\xff\xff", "añ\xc3\x00\xffodoble", "\xff\xff\xff\xff\xff\xff\xff\xff\xff"} {
		want := spelt(s)
		for _, parts := range partings(s) {
			wantSum(t, "Of", tally.Of(parts...), want)
			x := tally.New()
			var spread []string
			for _, part := range parts {
				x.Add("")
				x.Add(part)
				spread = append(spread, "", part)
			}
			wantSum(t, "Add", x.Sum(), want)
			wantSum(t, "Of with empty parts", tally.Of(append(spread, "")...), want)
		}
	}
}

func TestP3_3_NumberAsBytes(t *testing.T) {
	for _, n := range edges() {
		x, y := tally.New(), tally.New()
		x.Add("ahead")
		x.Num(n)
		x.Add("behind")
		for _, part := range []string{"ahead", bytesOf(n)[:3], bytesOf(n)[3:], "behind"} {
			y.Add(part)
		}
		wantSum(t, "a number as bytes", x.Sum(), y.Sum())
	}
}

func TestP3_3_OneByteElse(t *testing.T) {
	for _, s := range []string{"a", "\x00", "foobar", strings.Repeat("\x00", 20), strings.Repeat("\xff", 20), "paso doble, a dance of two"} {
		for i := range len(s) {
			seen := map[uint64]int{}
			for b := range 256 {
				sum := tally.Of(s[:i], string([]byte{byte(b)}), s[i+1:])
				if other, ok := seen[sum]; ok {
					t.Errorf("%q: byte %d as %d and as %d: %d", s, i, b, other, sum)
				}
				seen[sum] = b
			}
		}
	}
}

// orders answers list in every order.
func orders(list []uint64) [][]uint64 {
	if len(list) == 0 {
		return [][]uint64{nil}
	}
	var all [][]uint64
	for i := range list {
		rest := slices.Delete(slices.Clone(list), i, i+1)
		for _, order := range orders(rest) {
			all = append(all, append(order, list[i]))
		}
	}
	return all
}

func TestP3_3_MixInAnyOrder(t *testing.T) {
	for _, list := range [][]uint64{{1, 2}, {0, 1, 1}, {5, 0, math.MaxUint64, 1 << 63, 5, ofNothing}} {
		want := mixed(list...)
		for _, order := range orders(list) {
			wantSum(t, "in another order", tally.Mix(order...), want)
		}
	}
	list := sumsOf()
	want := tally.Mix(list...)
	slices.Sort(list)
	wantSum(t, "sorted", tally.Mix(list...), want)
	slices.Reverse(list)
	wantSum(t, "from the end", tally.Mix(list...), want)
}

func TestP3_3_MixHowOften(t *testing.T) {
	for _, sum := range sumsOf() {
		once := tally.Mix(sum)
		wantSum(t, "twice", tally.Mix(sum, sum), 2*once)
		wantSum(t, "three times", tally.Mix(sum, sum, sum), 3*once)
		if once == 0 || 2*once == 0 || 2*once == 3*once {
			t.Errorf("%d: as often as not: %d", sum, once)
		}
	}
	if tally.Mix(1, 1, 2) == tally.Mix(1, 2, 2) {
		t.Error("it is all one which of the sums is there twice")
	}
	if tally.Mix(1, 4) == tally.Mix(2, 3) {
		t.Error("unlike sums make up for one another")
	}
}
