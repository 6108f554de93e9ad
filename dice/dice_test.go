package dice_test

import (
	"math"
	"math/big"
	"slices"
	"testing"

	"pasodoble/dice"
)

// whole is 2^64, modulo which all is told.
func whole() *big.Int { return new(big.Int).Lsh(big.NewInt(1), 64) }

// number is the one that a text in tens says.
func number(text string) *big.Int {
	n, _ := new(big.Int).SetString(text, 10)
	return n
}

// raised is a seed by the chapter's words: one below 0 is 2^64 and it together.
func raised(seed int) *big.Int {
	n := big.NewInt(int64(seed))
	if seed < 0 {
		n.Add(n, whole())
	}
	return n
}

// lowered is the seed that a number modulo 2^64 is.
func lowered(n *big.Int) int {
	n = new(big.Int).Mod(n, whole())
	if n.Bit(63) == 1 {
		n.Sub(n, whole())
	}
	return int(n.Int64())
}

// stepped is the seed, stepped so many times by the chapter's words, in numbers without an end.
func stepped(seed, many int) int {
	way := new(big.Int).Mul(big.NewInt(int64(many)), number("11400714819323198485"))
	return lowered(way.Add(way, raised(seed)))
}

// mixed is a number mixed by the chapter's words, in numbers without an end.
func mixed(z *big.Int) uint64 {
	z = new(big.Int).Set(z)
	for _, part := range []struct {
		shift uint
		times string
	}{
		{30, "13787848793156543929"},
		{27, "10723151780598845931"},
		{31, "1"},
	} {
		z.Xor(z, new(big.Int).Rsh(z, part.shift))
		z.Mul(z, number(part.times))
		z.Mod(z, whole())
	}
	return z.Uint64()
}

// drawnOf is what a seed draws by the chapter's words.
func drawnOf(seed int) uint64 { return mixed(raised(stepped(seed, 1))) }

// below is what a seed draws below a bound by the chapter's words.
func below(seed, bound int) int {
	drawn := new(big.Int).SetUint64(drawnOf(seed))
	return int(drawn.Mod(drawn, big.NewInt(int64(bound))).Int64())
}

// shuffled is a shuffle by the chapter's words.
func shuffled(seed, bound int) (int, []int) {
	list := make([]int, bound)
	for n := range bound {
		list[n] = n
	}
	for back := range max(bound-1, 0) {
		i := bound - 1 - back
		j := below(seed, i+1)
		seed = stepped(seed, 1)
		here, there := list[i], list[j]
		list[i], list[j] = there, here
	}
	return seed, list
}

// numbers are ordinary ones and those at the edges: 0, those below 0, both ends of 64 bits, around each power of 2.
func numbers() []int {
	list := []int{
		0, 1, -1, 2, -2, 7, -7, 1000, -1000, 123456789, -123456789,
		math.MaxInt, math.MaxInt - 1, math.MinInt, math.MinInt + 1,
		-7046029254386353131, 7046029254386353131, -7046029254386353130, -7046029254386353132,
	}
	for shift := 2; shift < 63; shift++ {
		list = append(list, 1<<shift-1, 1<<shift, 1<<shift+1, -1<<shift-1, -1<<shift, -1<<shift+1)
	}
	return list
}

// drawnNumbers are numbers that may be drawn, those at both ends and each bit alone among them.
func drawnNumbers() []uint64 {
	list := []uint64{0, 1, 2, math.MaxUint64, math.MaxUint64 - 1, 1<<63 - 1, 1<<63 + 1, 16294208416658607535}
	for bit := range 64 {
		list = append(list, 1<<bit, math.MaxUint64-1<<bit, math.MaxUint64>>bit, math.MaxUint64<<bit)
	}
	for _, seed := range numbers() {
		list = append(list, uint64(seed), drawnOf(seed))
	}
	return list
}

func TestP4_1_NextExamples(t *testing.T) {
	for seed, want := range map[int]struct {
		behind int
		drawn  uint64
	}{
		0:                   {-7046029254386353131, 16294208416658607535},
		1:                   {-7046029254386353130, 10451216379200822465},
		7046029254386353131: {0, 0},
	} {
		if behind, drawn := dice.Next(seed); behind != want.behind || drawn != want.drawn {
			t.Errorf("Next(%d): %d, %d, want %d, %d", seed, behind, drawn, want.behind, want.drawn)
		}
	}
}

func TestP4_1_Next(t *testing.T) {
	for _, seed := range numbers() {
		behind, drawn := dice.Next(seed)
		if wantBehind, want := stepped(seed, 1), drawnOf(seed); behind != wantBehind || drawn != want {
			t.Errorf("Next(%d): %d, %d, want %d, %d", seed, behind, drawn, wantBehind, want)
		}
	}
}

func TestP4_1_NextOnAndOn(t *testing.T) {
	seed := -3
	for many := range 2000 {
		if want := stepped(-3, many); seed != want {
			t.Fatalf("behind %d draws: %d, want %d", many, seed, want)
		}
		behind, drawn := dice.Next(seed)
		if want := drawnOf(seed); drawn != want {
			t.Fatalf("draw %d: %d, want %d", many, drawn, want)
		}
		seed = behind
	}
}

func TestP4_1_NextAgain(t *testing.T) {
	behind, drawn := dice.Next(99)
	dice.Next(98)
	dice.Draw(behind, 6)
	dice.Shuffle(99, 10)
	if b, d := dice.Next(99); b != behind || d != drawn {
		t.Errorf("again: %d, %d, want %d, %d", b, d, behind, drawn)
	}
}

func TestP4_1_Back(t *testing.T) {
	for _, seed := range numbers() {
		if got, want := dice.Back(seed), stepped(seed, -1); got != want {
			t.Errorf("Back(%d): %d, want %d", seed, got, want)
		}
		if behind, _ := dice.Next(dice.Back(seed)); behind != seed {
			t.Errorf("Next of Back(%d): %d", seed, behind)
		}
	}
	if got := dice.Back(-7046029254386353131); got != 0 {
		t.Errorf("the example's seed, taken back: %d", got)
	}
}

func TestP4_1_EachDrawTakenBack(t *testing.T) {
	for _, seed := range numbers() {
		if behind, _ := dice.Next(seed); dice.Back(behind) != seed {
			t.Errorf("Next(%d), taken back: %d", seed, dice.Back(behind))
		}
		for _, bound := range []int{-1, 0, 1, 6, math.MaxInt} {
			if behind, _ := dice.Draw(seed, bound); dice.Back(behind) != seed {
				t.Errorf("Draw(%d, %d), taken back: %d", seed, bound, dice.Back(behind))
			}
		}
	}
}

func TestP4_1_Skip(t *testing.T) {
	for _, seed := range numbers() {
		for _, many := range numbers() {
			if got, want := dice.Skip(seed, many), stepped(seed, many); got != want {
				t.Errorf("Skip(%d, %d): %d, want %d", seed, many, got, want)
			}
		}
		if got := dice.Skip(seed, 0); got != seed {
			t.Errorf("Skip(%d, 0): %d", seed, got)
		}
	}
}

func TestP4_1_SkipAsDraws(t *testing.T) {
	for _, seed := range []int{0, 5, -5, math.MaxInt, math.MinInt} {
		on, back := seed, seed
		for many := range 300 {
			if dice.Skip(seed, many) != on || dice.Skip(seed, -many) != back {
				t.Errorf("%d, %d times: %d and %d", seed, many, dice.Skip(seed, many), dice.Skip(seed, -many))
			}
			on, _ = dice.Next(on)
			back = dice.Back(back)
		}
	}
}

func TestP4_1_SkipThereAndBack(t *testing.T) {
	for _, seed := range numbers() {
		for _, many := range numbers() {
			// -MinInt is MinInt: as many steps again are 2^64 in all, which is where it began.
			if got := dice.Skip(dice.Skip(seed, many), -many); got != seed {
				t.Errorf("%d, %d times and back: %d", seed, many, got)
			}
		}
	}
}

func TestP4_1_Seed(t *testing.T) {
	if got := dice.Seed(16294208416658607535); got != 0 {
		t.Errorf("the example's draw is of the seed %d", got)
	}
	if got := dice.Seed(0); got != 7046029254386353131 {
		t.Errorf("0 is of the seed %d", got)
	}
	for _, drawn := range drawnNumbers() {
		seed := dice.Seed(drawn)
		if got := drawnOf(seed); got != drawn {
			t.Errorf("Seed(%d): %d, which draws %d", drawn, seed, got)
		}
	}
}

func TestP4_1_EachDrawsSeedFound(t *testing.T) {
	for _, seed := range numbers() {
		if _, drawn := dice.Next(seed); dice.Seed(drawn) != seed {
			t.Errorf("%d draws %d, which is of %d", seed, drawn, dice.Seed(drawn))
		}
	}
	for _, drawn := range drawnNumbers() {
		if _, got := dice.Next(dice.Seed(drawn)); got != drawn {
			t.Errorf("the seed of %d draws %d", drawn, got)
		}
	}
}

func TestP4_2_DrawExamples(t *testing.T) {
	if seed, got := dice.Draw(0, 6); seed != -7046029254386353131 || got != 1 {
		t.Errorf("Draw(0, 6): %d, %d", seed, got)
	}
	// This seed draws 2^64 - 1, which no bound of 63 bits must take for a number below 0.
	top := dice.Seed(math.MaxUint64)
	for bound, want := range map[int]int{1: 0, 2: 1, 3: 0, 10: 5, 7: 1, 1 << 62: 1<<62 - 1, math.MaxInt: 1} {
		if _, got := dice.Draw(top, bound); got != want {
			t.Errorf("2^64 - 1 modulo %d: %d, want %d", bound, got, want)
		}
	}
}

func TestP4_2_Draw(t *testing.T) {
	for _, seed := range numbers() {
		for _, bound := range numbers() {
			behind, got := dice.Draw(seed, bound)
			want := 0
			if bound > 0 {
				want = below(seed, bound)
			}
			if behind != stepped(seed, 1) || got != want {
				t.Errorf("Draw(%d, %d): %d, %d, want %d, %d", seed, bound, behind, got, stepped(seed, 1), want)
			}
		}
	}
}

func TestP4_2_DrawBelowNothing(t *testing.T) {
	for _, seed := range []int{0, 1, -1, math.MaxInt, math.MinInt, dice.Seed(math.MaxUint64)} {
		for _, bound := range []int{0, -1, -5, -6, math.MinInt, math.MinInt + 1} {
			if behind, got := dice.Draw(seed, bound); behind != stepped(seed, 1) || got != 0 {
				t.Errorf("Draw(%d, %d): %d, %d", seed, bound, behind, got)
			}
		}
	}
}

func TestP4_2_DrawAsNext(t *testing.T) {
	for _, seed := range numbers() {
		next, drawn := dice.Next(seed)
		for _, bound := range []int{1, 2, 3, 6, 100, 1 << 40, math.MaxInt} {
			behind, got := dice.Draw(seed, bound)
			if behind != next || uint64(got) != drawn%uint64(bound) || got < 0 || got >= bound {
				t.Errorf("Draw(%d, %d): %d, %d, of %d, %d", seed, bound, behind, got, next, drawn)
			}
		}
	}
}

func wantShuffle(t *testing.T, seed, bound, many int) {
	t.Helper()
	behind, list := dice.Shuffle(seed, bound)
	wantBehind, want := shuffled(seed, many)
	if behind != wantBehind || !slices.Equal(list, want) {
		t.Errorf("Shuffle(%d, %d): %d, %v, want %d, %v", seed, bound, behind, list, wantBehind, want)
	}
}

func TestP4_3_ShuffleOfFew(t *testing.T) {
	for _, seed := range numbers() {
		for many := range 13 {
			wantShuffle(t, seed, many, many)
		}
	}
}

func TestP4_3_ShuffleOfNone(t *testing.T) {
	for _, bound := range []int{0, -1, -40, -1 << 12, math.MinInt, math.MinInt + 1} {
		for _, seed := range []int{0, 7, -7, math.MaxInt, math.MinInt} {
			if behind, list := dice.Shuffle(seed, bound); behind != seed || len(list) != 0 {
				t.Errorf("Shuffle(%d, %d): %d, %v", seed, bound, behind, list)
			}
		}
	}
}

func TestP4_3_ShuffleOfOne(t *testing.T) {
	for _, seed := range numbers() {
		if behind, list := dice.Shuffle(seed, 1); behind != seed || !slices.Equal(list, []int{0}) {
			t.Errorf("Shuffle(%d, 1): %d, %v", seed, behind, list)
		}
	}
}

func TestP4_3_ShuffleOfMany(t *testing.T) {
	for _, seed := range []int{0, 3, -3, math.MaxInt, math.MinInt} {
		for _, many := range []int{40, 64, 1000, 1<<12 - 1, 1 << 12} {
			wantShuffle(t, seed, many, many)
		}
	}
}

func TestP4_3_ShuffleOfTooMany(t *testing.T) {
	for _, bound := range []int{1<<12 + 1, 1<<12 + 2, 1 << 13, 1 << 16, 1 << 31, 1 << 32, 1<<32 + 1, math.MaxInt - 1, math.MaxInt} {
		wantShuffle(t, 11, bound, 1<<12)
	}
}

func TestP4_3_SeedBehindAllDraws(t *testing.T) {
	for _, seed := range []int{0, 3, -3, math.MaxInt, math.MinInt} {
		for _, many := range []int{2, 3, 40, 1 << 12} {
			if behind, _ := dice.Shuffle(seed, many); dice.Skip(behind, 1-many) != seed {
				t.Errorf("Shuffle(%d, %d): %d", seed, many, behind)
			}
		}
		if behind, _ := dice.Shuffle(seed, math.MaxInt); behind != dice.Skip(seed, 1<<12-1) {
			t.Errorf("Shuffle(%d, the greatest): %d", seed, behind)
		}
	}
}

func TestP4_3_ListsApart(t *testing.T) {
	_, one := dice.Shuffle(5, 20)
	was := slices.Clone(one)
	_, other := dice.Shuffle(5, 20)
	for i := range other[:cap(other)] {
		other[:cap(other)][i] = -1
	}
	if !slices.Equal(one, was) {
		t.Error("two answers share memory:", one)
	}
	wantShuffle(t, 5, 20, 20)
}

func TestP4_4_EachSeedOneDraw(t *testing.T) {
	seeds := map[uint64]int{}
	ask := func(seed int) {
		_, drawn := dice.Next(seed)
		if other, ok := seeds[drawn]; ok && other != seed {
			t.Errorf("%d and %d draw %d", seed, other, drawn)
		}
		seeds[drawn] = seed
		if dice.Seed(drawn) != seed {
			t.Errorf("%d draws %d, which is of %d", seed, drawn, dice.Seed(drawn))
		}
	}
	for _, middle := range []int{0, math.MaxInt, -7046029254386353131, 7046029254386353131} {
		for away := -3000; away <= 3000; away++ {
			ask(middle + away)
		}
	}
	for _, seed := range numbers() {
		ask(seed)
	}
}

func TestP4_4_EachDrawOneSeed(t *testing.T) {
	draws := map[int]uint64{}
	ask := func(drawn uint64) {
		seed := dice.Seed(drawn)
		if other, ok := draws[seed]; ok && other != drawn {
			t.Errorf("%d and %d are of %d", drawn, other, seed)
		}
		draws[seed] = drawn
		if _, got := dice.Next(seed); got != drawn {
			t.Errorf("%d is of %d, which draws %d", drawn, seed, got)
		}
	}
	for away := range uint64(6001) {
		ask(away - 3000)
		ask(1<<63 + away - 3000)
	}
	for _, drawn := range drawnNumbers() {
		ask(drawn)
	}
}

func TestP4_4_EachNumberOnce(t *testing.T) {
	for _, seed := range []int{0, 1, -1, 3, math.MaxInt, math.MinInt} {
		for _, bound := range []int{1, 2, 3, 40, 64, 1000, 1 << 12, 1<<12 + 1, math.MaxInt} {
			_, list := dice.Shuffle(seed, bound)
			slices.Sort(list)
			if len(list) != min(bound, 1<<12) {
				t.Errorf("Shuffle(%d, %d) has %d numbers", seed, bound, len(list))
			}
			for i, n := range list {
				if n != i {
					t.Errorf("Shuffle(%d, %d), sorted: %d at %d", seed, bound, n, i)
					break
				}
			}
		}
	}
}
