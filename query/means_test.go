package query_test

import (
	"math"
	"math/rand"
	"slices"
	"testing"

	"pasodoble/api"
	"pasodoble/query"
)

// low is the frame as which all frames below it are taken.
const low = -1 << 62

// noNumbers are Comps that are none of a set's numbers, some of which would wrap round to one.
var noNumbers = []int{
	math.MinInt, math.MinInt + 1, low, -1 << 32, -1<<32 + 1, math.MinInt32, -64, -63, -33, -32, -31, -2, -1,
	32, 33, 63, 64, 65, 96, 255, 256, 1<<31 - 1, 1 << 31, 1<<32 - 1, 1 << 32, 1<<32 + 1, 1<<32 + 31, 1 << 62, math.MaxInt - 1, math.MaxInt,
}

// frames are of every sign, with the least Tick of a part that was changed lately in them.
var frames = []struct{ frame, least int }{
	{math.MinInt, low - 1}, {math.MinInt + 1, low - 1}, {-1<<63 + 2, low - 1}, {low - 2, low - 1}, {low - 1, low - 1},
	{low, low - 1}, {low + 1, low}, {low + 2, low + 1}, {-1 << 32, -1<<32 - 1}, {math.MinInt32, math.MinInt32 - 1},
	{-100, -101}, {-2, -3}, {-1, -2}, {0, -1}, {1, 0}, {2, 1}, {9, 8}, {api.MaxFrame, api.MaxFrame - 1},
	{1 << 31, 1<<31 - 1}, {1 << 32, 1<<32 - 1}, {1 << 62, 1<<62 - 1}, {math.MaxInt - 1, math.MaxInt - 2}, {math.MaxInt, math.MaxInt - 1},
}

// at is a part of a component, changed last in a frame.
func at(comp, tick int) api.Part { return api.Part{Comp: comp, Tick: tick} }

// of are parts of components, changed last in the frame 0.
func of(comps ...int) []api.Part {
	var parts []api.Part
	for _, comp := range comps {
		parts = append(parts, at(comp, 0))
	}
	return parts
}

// isMeant is the document's word told another way: each of a set's numbers is held against each part.
func isMeant(f api.Filter, frame int, parts []api.Part) bool {
	if frame < low {
		frame = low
	}
	for number := range 32 {
		there, lately := false, false
		for _, p := range parts {
			if p.Comp == number {
				there = true
				lately = lately || p.Tick == frame-1 || p.Tick >= frame
			}
		}
		if inSet(f.With, number) && !there || inSet(f.Without, number) && there || inSet(f.Changed, number) && !lately {
			return false
		}
	}
	return true
}

// wantMeans asks for an answer, and that neither the parts nor their spare room were changed.
func wantMeans(t *testing.T, want bool, f api.Filter, frame int, parts ...api.Part) {
	t.Helper()
	room := append(slices.Clone(parts), at(0, 5), at(31, -5))
	if got := query.Means(f, frame, room[:len(parts)]...); got != want {
		t.Errorf("Means %+v in %d of %v: %v", f, frame, parts, got)
	}
	if !slices.Equal(room, append(slices.Clone(parts), at(0, 5), at(31, -5))) {
		t.Errorf("Means %+v in %d changed %v to %v", f, frame, parts, room)
	}
}

func TestP11_2_MeansExample(t *testing.T) {
	f := api.Filter{With: a, Changed: a}
	wantMeans(t, true, f, 9, at(0, 8))
	wantMeans(t, true, f, 9, at(0, 9))
	wantMeans(t, true, f, 9, at(0, 10))
	wantMeans(t, false, f, 9, at(0, 7))
	wantMeans(t, false, f, 9, at(1, 8))
}

func TestP11_2_MeansOfNoParts(t *testing.T) {
	for _, x := range frames {
		wantMeans(t, true, api.Filter{}, x.frame)
		wantMeans(t, true, api.Filter{Without: all}, x.frame)
		for number := range 32 {
			m := api.Mask(1) << number
			wantMeans(t, true, api.Filter{Without: m}, x.frame)
			wantMeans(t, false, api.Filter{With: m}, x.frame)
			wantMeans(t, false, api.Filter{Changed: m}, x.frame)
			wantMeans(t, false, api.Filter{With: m, Without: m}, x.frame)
		}
		wantMeans(t, false, api.Filter{With: all, Changed: all}, x.frame)
	}
}

func TestP11_2_MeansAllOfWithAndNoneOfWithout(t *testing.T) {
	for comps := range 32 {
		var parts []api.Part
		for comp := range 5 {
			if comps>>comp%2 == 1 {
				parts = append(parts, at(comp, -1000))
			}
		}
		for in := range 32 {
			for out := range 32 {
				f := api.Filter{With: api.Mask(in), Without: api.Mask(out)}
				wantMeans(t, in&comps == in && out&comps == 0, f, 7, parts...)
			}
		}
	}
}

func TestP11_2_MeansOfEachNumberOfASet(t *testing.T) {
	for number := range 32 {
		m := api.Mask(1) << number
		p := at(number, 4)
		for _, f := range []api.Filter{{}, {With: m}, {Changed: m}, {With: m, Changed: m}, {Without: all - m}} {
			wantMeans(t, true, f, 5, p)
		}
		for _, f := range []api.Filter{{Without: m}, {Without: all}, {With: all}, {With: all - m}, {Changed: all - m}, {Changed: all}, {With: m, Without: m}} {
			wantMeans(t, false, f, 5, p)
		}
		wantMeans(t, false, api.Filter{Changed: m}, 6, p)
		wantMeans(t, true, api.Filter{With: m}, 6, p)
	}
	var every []api.Part
	for number := range 32 {
		every = append(every, at(number, 4))
	}
	wantMeans(t, true, api.Filter{With: all, Changed: all}, 5, every...)
	wantMeans(t, false, api.Filter{With: all, Changed: all}, 6, every...)
	for number := range 32 {
		old := slices.Clone(every)
		old[number].Tick = 3
		wantMeans(t, false, api.Filter{Changed: all}, 5, old...)
		wantMeans(t, true, api.Filter{Changed: all - 1<<number}, 5, old...)
	}
}

func TestP11_2_MeansWithOneInCommon(t *testing.T) {
	f := api.Filter{With: a | b, Without: b}
	for _, parts := range [][]api.Part{nil, of(0), of(1), of(0, 1), of(0, 1, 2), of(1, 1)} {
		wantMeans(t, false, f, 0, parts...)
	}
	wantMeans(t, false, api.Filter{Without: a, Changed: a}, 1, at(0, 1))
	wantMeans(t, false, api.Filter{Without: a, Changed: a}, 1)
}

func TestP11_2_MeansChangedThatWithHasnt(t *testing.T) {
	wantMeans(t, true, api.Filter{Changed: b}, 4, at(1, 3))
	wantMeans(t, false, api.Filter{Changed: b}, 4, at(1, 2))
	wantMeans(t, false, api.Filter{Changed: b}, 4, at(0, 9))
	wantMeans(t, false, api.Filter{Changed: b}, 4)
	wantMeans(t, true, api.Filter{With: a, Changed: b}, 4, at(0, 0), at(1, 3))
	wantMeans(t, false, api.Filter{With: a, Changed: b}, 4, at(1, 3))
	wantMeans(t, false, api.Filter{With: a, Changed: b}, 4, at(0, 9))
	wantMeans(t, false, api.Filter{With: a, Changed: b}, 4, at(0, 9), at(1, 2))
}

func TestP11_2_MeansEachOfChanged(t *testing.T) {
	f := api.Filter{With: a | b | c, Changed: a | c}
	wantMeans(t, true, f, 4, at(0, 3), at(1, 0), at(3, 3))
	wantMeans(t, false, f, 4, at(0, 2), at(1, 9), at(3, 3))
	wantMeans(t, false, f, 4, at(0, 3), at(1, 9), at(3, 2))
	wantMeans(t, false, f, 4, at(0, 2), at(1, 9), at(3, 2))
	wantMeans(t, false, f, 4, at(0, 3), at(1, 3))
}

func TestP11_2_MeansLatelyAtEachFrame(t *testing.T) {
	for _, f := range []api.Filter{{Changed: b}, {With: b, Changed: b}} {
		for _, x := range frames {
			for _, tick := range []int{x.least, x.least + 1, max(x.frame, x.least), math.MaxInt} {
				wantMeans(t, true, f, x.frame, at(1, tick))
			}
			for _, tick := range []int{x.least - 1, math.MinInt} {
				wantMeans(t, false, f, x.frame, at(1, tick))
			}
			if x.frame < math.MaxInt {
				wantMeans(t, true, f, x.frame, at(1, max(x.frame+1, x.least)))
			}
			for _, tick := range []int{math.MinInt, x.least - 1, x.least, math.MaxInt} {
				wantMeans(t, true, api.Filter{With: b}, x.frame, at(1, tick))
				wantMeans(t, false, api.Filter{Without: b}, x.frame, at(1, tick))
			}
		}
	}
}

func TestP11_2_MeansBelowTheLeastFrame(t *testing.T) {
	f := api.Filter{Changed: a}
	for _, frame := range []int{math.MinInt, math.MinInt + 1, low - 3, low - 2, low - 1, low} {
		wantMeans(t, true, f, frame, at(0, low))
		wantMeans(t, true, f, frame, at(0, low-1))
		wantMeans(t, false, f, frame, at(0, low-2))
		wantMeans(t, false, f, frame, at(0, low-3))
		wantMeans(t, false, f, frame, at(0, math.MinInt))
	}
	wantMeans(t, false, f, low+1, at(0, low-1))
	wantMeans(t, true, f, low+1, at(0, low))
}

func TestP11_2_MeansOfSeveralPartsOfOneComp(t *testing.T) {
	f := api.Filter{With: b, Changed: b}
	for _, ticks := range [][]int{{1, 3}, {3, 1}, {3, 3}, {1, 1, 3}, {1, 3, 1}, {3, 1, 1}, {math.MinInt, 3}, {3, math.MinInt}, {-5, 4}, {0, math.MaxInt}} {
		var parts []api.Part
		for _, tick := range ticks {
			parts = append(parts, at(1, tick))
		}
		wantMeans(t, true, f, 4, parts...)
		wantMeans(t, true, f, 4, append(parts, of(0, 2, 77)...)...)
		wantMeans(t, false, api.Filter{Without: b}, 4, parts...)
	}
	wantMeans(t, false, f, 4, at(1, 1), at(1, 2))
	wantMeans(t, false, f, 4, at(1, 2), at(1, math.MinInt), at(0, 9))
	wantMeans(t, true, f, -4, at(1, -9), at(1, -5)) // of Ticks below 0, too, any one
	wantMeans(t, false, f, -3, at(1, -9), at(1, -5))
	wantMeans(t, false, api.Filter{Changed: a | b}, 4, at(1, 3), at(1, 1), at(0, 1), at(0, 2))
	wantMeans(t, true, api.Filter{Changed: a | b}, 4, at(1, 3), at(0, 1), at(1, 1), at(0, 3))
}

func TestP11_2_MeansOfCompsThatAreNoNumbers(t *testing.T) {
	for _, comp := range noNumbers {
		p := at(comp, 1000)
		wantMeans(t, true, api.Filter{}, 0, p)
		wantMeans(t, true, api.Filter{Without: all}, 0, p)
		for number := range 32 {
			m := api.Mask(1) << number
			wantMeans(t, false, api.Filter{With: m}, 0, p)
			wantMeans(t, false, api.Filter{Changed: m}, 0, p)
			wantMeans(t, true, api.Filter{With: m, Changed: m, Without: all - m}, 0, p, at(number, 0), p)
			wantMeans(t, false, api.Filter{With: m, Changed: m}, 2, p, at(number, 0), p)
		}
	}
	var parts []api.Part
	for _, comp := range noNumbers {
		parts = append(parts, at(comp, 1000))
	}
	wantMeans(t, true, api.Filter{Without: all}, 0, parts...)
	wantMeans(t, true, api.Filter{With: 1 << 31, Without: all - 1<<31, Changed: 1 << 31}, 9, append(parts, at(31, 8))...)
}

// TestP11_2_MeansDrawn asks, too, that the order in which parts stand makes no difference, nor what their cells are.
func TestP11_2_MeansDrawn(t *testing.T) {
	meant := 0
	for seed := range 20000 {
		r := rand.New(rand.NewSource(int64(seed)))
		x := frames[r.Intn(len(frames))]
		var parts []api.Part
		for range r.Intn(8) {
			comp := r.Intn(5)
			switch r.Intn(10) {
			case 0:
				comp = noNumbers[r.Intn(len(noNumbers))]
			case 1:
				comp = 31
			}
			tick := x.least + r.Intn(6) - 2
			if r.Intn(5) == 0 {
				tick = []int{math.MinInt, -1, 0, math.MaxInt}[r.Intn(4)]
			}
			parts = append(parts, at(comp, tick))
		}
		drawn := func() api.Mask { return api.Mask(r.Uint32()&r.Uint32()&r.Uint32()) & (31 | 1<<31) }
		f := api.Filter{With: drawn(), Without: drawn(), Changed: drawn()}
		want := isMeant(f, x.frame, parts)
		if want && f != (api.Filter{}) {
			meant++
		}
		wantMeans(t, want, f, x.frame, parts...)
		for i := range parts {
			parts[i].Values = [api.MaxWidth]int{r.Int(), -r.Int(), i}
		}
		r.Shuffle(len(parts), func(i, j int) { parts[i], parts[j] = parts[j], parts[i] })
		wantMeans(t, want, f, x.frame, parts...)
		if t.Failed() {
			t.Fatal("seed", seed)
		}
	}
	if meant < 1000 {
		t.Error("too few were meant:", meant)
	}
}
