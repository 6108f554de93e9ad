package roll_test

import (
	"errors"
	"fmt"
	"math"
	"math/rand"
	"slices"
	"testing"

	"pasodoble/api"
	"pasodoble/blame"
	"pasodoble/roll"
)

// ends are some numbers at both ends of 64 bits, and near those of 32 bits.
var ends = []int{
	math.MinInt, math.MinInt + 1, -1 << 32, -1<<32 + 1, math.MinInt32, -64, -2, -1,
	1<<31 - 1, 1 << 31, 1<<32 - 1, 1 << 32, 1<<32 + 1, math.MaxInt - 1, math.MaxInt,
}

func entity(index, gen int) api.Entity { return api.Entity{Index: index, Gen: gen} }

// wants asks that just this one of the named errors is told.
func wants(t *testing.T, name string, err, want error) {
	t.Helper()
	if !errors.Is(err, want) || len(blame.Leaves(err)) != 1 {
		t.Errorf("%s: %v %v, want %v", name, err, blame.Leaves(err), want)
	}
}

func made(t *testing.T, most int) *roll.Roll {
	t.Helper()
	r, err := roll.New(most)
	if r == nil || err != nil {
		t.Fatalf("New %d: %v, %v", most, r, err)
	}
	return r
}

// taken takes an entity where one is free.
func taken(t *testing.T, r *roll.Roll) api.Entity {
	t.Helper()
	e, err := r.Take()
	if err != nil {
		t.Fatalf("Take with %d of %d: %v", r.Count(), r.Most(), err)
	}
	return e
}

// wantTaken asks that the next entities are these.
func wantTaken(t *testing.T, name string, r *roll.Roll, want ...api.Entity) {
	t.Helper()
	for _, e := range want {
		if got, err := r.Take(); got != e || err != nil {
			t.Fatalf("%s: Take %v, %v, want %v", name, got, err, e)
		}
	}
}

func wantFull(t *testing.T, r *roll.Roll) {
	t.Helper()
	e, err := r.Take()
	wants(t, "Take of none free", err, api.ErrFull)
	if e != (api.Entity{}) {
		t.Errorf("beside ErrFull %v", e)
	}
}

func wantFreed(t *testing.T, r *roll.Roll, list ...api.Entity) {
	t.Helper()
	for _, e := range list {
		if err := r.Free(e); err != nil {
			t.Fatalf("Free %v: %v", e, err)
		}
	}
}

// book is the chapter's words, told another way: all that was given so far, and the row of free places, first one first.
// A place's generation is how often it was given; an entity that was given is alive until its place stands in the row.
type book struct {
	most  int
	given []api.Entity
	row   []int
}

func newBook(most int) *book {
	b := &book{most: most}
	for index := range most {
		b.row = append(b.row, index)
	}
	return b
}

func (b *book) gen(index int) int {
	times := 0
	for _, e := range b.given {
		if e.Index == index {
			times++
		}
	}
	return times
}

func (b *book) alive(e api.Entity) bool {
	return e.Index >= 0 && e.Index < b.most && !slices.Contains(b.row, e.Index) && b.gen(e.Index) == e.Gen
}

func (b *book) take() (api.Entity, error) {
	if len(b.row) == 0 {
		return api.Entity{}, api.ErrFull
	}
	e := entity(b.row[0], b.gen(b.row[0])+1)
	b.row = b.row[1:]
	b.given = append(b.given, e)
	return e, nil
}

func (b *book) free(e api.Entity) error {
	if !b.alive(e) {
		return api.ErrDead
	}
	b.row = slices.Concat([]int{e.Index}, b.row)
	return nil
}

func (b *book) list() []api.Entity {
	var list []api.Entity
	for index := range b.most {
		if e := entity(index, b.gen(index)); b.alive(e) {
			list = append(list, e)
		}
	}
	return list
}

// pair is a roll beside the book of it.
type pair struct {
	*testing.T
	r *roll.Roll
	b *book
}

func newPair(t *testing.T, most int) pair { return pair{t, made(t, most), newBook(most)} }

func (p pair) take() {
	p.Helper()
	want, wrong := p.b.take()
	got, err := p.r.Take()
	if got != want || !errors.Is(err, wrong) {
		p.Fatalf("Take behind %v: %v, %v, want %v, %v", p.b.given, got, err, want, wrong)
	}
	p.same()
}

func (p pair) free(e api.Entity) {
	p.Helper()
	wrong := p.b.free(e)
	if err := p.r.Free(e); !errors.Is(err, wrong) {
		p.Fatalf("Free %v behind %v: %v, want %v", e, p.b.given, err, wrong)
	}
	p.same()
}

// same asks that the roll tells what the book says.
func (p pair) same() {
	p.Helper()
	want := p.b.list()
	if got := p.r.List(); !slices.Equal(got, want) {
		p.Fatalf("List behind %v: %v, want %v", p.b.given, got, want)
	}
	if p.r.Count() != len(want) || p.r.Most() != p.b.most {
		p.Fatalf("Count %d, Most %d, want %d, %d", p.r.Count(), p.r.Most(), len(want), p.b.most)
	}
	for _, e := range p.b.given[max(0, len(p.b.given)-8):] {
		if p.r.Alive(e) != p.b.alive(e) {
			p.Fatalf("Alive %v behind %v: %v", e, p.b.given, p.r.Alive(e))
		}
	}
}

func TestP6_1_Example(t *testing.T) {
	r := made(t, 4)
	wantTaken(t, "at first", r, entity(0, 1), entity(1, 1))
	wantFreed(t, r, entity(0, 1))
	wantTaken(t, "behind Free", r, entity(0, 2), entity(2, 1), entity(3, 1))
	wantFull(t, r)
}

func TestP6_1_NewOfWhatCantBe(t *testing.T) {
	for _, most := range slices.Concat(ends, []int{65, 66, 127, 128, 256, 257, 1<<16 + 1}) {
		r, err := roll.New(most)
		wants(t, fmt.Sprint("New ", most), err, api.ErrArg)
		if r != nil {
			t.Errorf("New %d: a roll of %d beside the error", most, r.Most())
		}
	}
}

func TestP6_1_NewAndTake(t *testing.T) {
	for most := range api.MaxEntities + 1 {
		r := made(t, most)
		for n := range most + 1 {
			if r.Count() != n || r.Most() != most || len(r.List()) != n {
				t.Fatalf("%d of %d: Count %d, Most %d, List %v", n, most, r.Count(), r.Most(), r.List())
			}
			if n < most {
				wantTaken(t, fmt.Sprintf("%d of %d", n, most), r, entity(n, 1))
			}
		}
		for range 3 {
			wantFull(t, r)
		}
		if r.Count() != most || len(r.List()) != most {
			t.Errorf("full: Count %d, List %v, want %d", r.Count(), r.List(), most)
		}
	}
}

func TestP6_1_RollOfNoPlace(t *testing.T) {
	r := made(t, 0)
	wantFull(t, r)
	for _, e := range []api.Entity{{}, entity(0, 1), entity(-1, 1), entity(0, -1)} {
		wants(t, "Free", r.Free(e), api.ErrDead)
		if r.Alive(e) {
			t.Error("alive:", e)
		}
	}
	if r.Count() != 0 || r.Most() != 0 || len(r.List()) != 0 {
		t.Error(r.Count(), r.Most(), r.List())
	}
}

func TestP6_1_NilRoll(t *testing.T) {
	var r *roll.Roll
	for range 2 {
		e, err := r.Take()
		wants(t, "Take", err, api.ErrNil)
		if e != (api.Entity{}) {
			t.Error("beside ErrNil", e)
		}
		for _, n := range append(ends, 0, 1, 2, 63, 64) {
			for _, e := range []api.Entity{entity(n, 1), entity(0, n), entity(n, n)} {
				wants(t, "Free", r.Free(e), api.ErrNil)
				if r.Alive(e) {
					t.Error("alive:", e)
				}
			}
		}
		if r.Count() != 0 || r.Most() != 0 || len(r.List()) != 0 {
			t.Error(r.Count(), r.Most(), r.List())
		}
	}
}

// strangers are entities that are not alive in a roll of 5 places where 0, 1 and 3 are given in their second
// generation, 2 in its first, and 4 never: wrong in the index, in the generation, or freed already.
func strangers() []api.Entity {
	var list []api.Entity
	for _, n := range ends {
		for index := range 5 {
			list = append(list, entity(index, n))
		}
		for _, gen := range []int{0, 1, 2, n} {
			list = append(list, entity(n, gen))
		}
	}
	for index := range 70 {
		for gen := range 6 {
			list = append(list, entity(index, gen))
		}
	}
	given := []api.Entity{entity(0, 2), entity(1, 2), entity(2, 1), entity(3, 2)}
	return slices.DeleteFunc(list, func(e api.Entity) bool { return slices.Contains(given, e) })
}

// standing is the roll that strangers are strange to.
func standing(t *testing.T) *roll.Roll {
	r := made(t, 5)
	wantTaken(t, "at first", r, entity(0, 1), entity(1, 1), entity(2, 1), entity(3, 1))
	wantFreed(t, r, entity(1, 1), entity(3, 1), entity(0, 1))
	wantTaken(t, "again", r, entity(0, 2), entity(3, 2), entity(1, 2))
	return r
}

func TestP6_1_FreeOfWhatIsDead(t *testing.T) {
	r := standing(t)
	want := r.List()
	for _, e := range strangers() {
		wants(t, fmt.Sprint("Free ", e), r.Free(e), api.ErrDead)
		if r.Count() != 4 || r.Most() != 5 || !slices.Equal(r.List(), want) {
			t.Fatalf("Free %v: Count %d, Most %d, List %v", e, r.Count(), r.Most(), r.List())
		}
	}
	wantTaken(t, "behind all the errors", r, entity(4, 1))
	wantFull(t, r)
	wantFreed(t, r, entity(2, 1))
	wants(t, "Free once more", r.Free(entity(2, 1)), api.ErrDead)
	wantTaken(t, "behind one more", r, entity(2, 2))
	wantFull(t, r)
}

func TestP6_1_Alive(t *testing.T) {
	r := standing(t)
	for _, e := range strangers() {
		if r.Alive(e) {
			t.Error("alive:", e)
		}
	}
	list := r.List()
	if !slices.Equal(list, []api.Entity{entity(0, 2), entity(1, 2), entity(2, 1), entity(3, 2)}) {
		t.Fatal(list)
	}
	for _, e := range list {
		if !r.Alive(e) {
			t.Error("not alive:", e)
		}
		wantFreed(t, r, e)
		if r.Alive(e) {
			t.Error("freed, and alive:", e)
		}
	}
	if r.Count() != 0 || len(r.List()) != 0 {
		t.Error(r.Count(), r.List())
	}
}

// orders are all orders of the numbers below n.
func orders(n int) [][]int {
	if n == 0 {
		return [][]int{nil}
	}
	var list [][]int
	for _, order := range orders(n - 1) {
		for place := range n {
			list = append(list, slices.Insert(slices.Clone(order), place, n-1))
		}
	}
	return list
}

func TestP6_1_LastFreedIsGivenFirst(t *testing.T) {
	const places = 5
	for _, order := range orders(places) {
		for freed := range places + 1 {
			r := made(t, places+2)
			for range places {
				taken(t, r)
			}
			var want []api.Entity
			for _, index := range order[:freed] {
				wantFreed(t, r, entity(index, 1))
				want = append(want, entity(index, 2))
			}
			slices.Reverse(want)
			want = append(want, entity(places, 1), entity(places+1, 1))
			wantTaken(t, fmt.Sprint("freed ", order[:freed]), r, want...)
			wantFull(t, r)
		}
	}
}

func TestP6_1_AllOf64FreedAndGivenAgain(t *testing.T) {
	r := made(t, api.MaxEntities)
	for round := range 5 {
		for n := range api.MaxEntities {
			index := n
			if round%2 == 1 {
				index = api.MaxEntities - 1 - n
			}
			wantTaken(t, fmt.Sprint("round ", round), r, entity(index, round+1))
		}
		wantFull(t, r)
		for n := range api.MaxEntities {
			index := n
			if round%2 == 1 {
				index = api.MaxEntities - 1 - n
			}
			wantFreed(t, r, entity(index, round+1))
		}
	}
}

func TestP6_1_GenerationsRise(t *testing.T) {
	r := made(t, 1)
	for gen := 1; gen <= 100_000; gen++ {
		wantTaken(t, "the one place", r, entity(0, gen))
		wantFull(t, r)
		if r.Alive(entity(0, gen-1)) || r.Alive(entity(0, gen+1)) || !r.Alive(entity(0, gen)) {
			t.Fatal("alive in another generation than", gen)
		}
		wants(t, "too low", r.Free(entity(0, gen-1)), api.ErrDead)
		wants(t, "too high", r.Free(entity(0, gen+1)), api.ErrDead)
		wantFreed(t, r, entity(0, gen))
	}
}

func TestP6_1_GenerationsAreEachPlacesOwn(t *testing.T) {
	r := made(t, 3)
	wantTaken(t, "at first", r, entity(0, 1), entity(1, 1))
	for gen := 1; gen < 20; gen++ {
		wantFreed(t, r, entity(1, gen))
		wantTaken(t, "again", r, entity(1, gen+1))
	}
	wantTaken(t, "the third place", r, entity(2, 1))
	wantFreed(t, r, entity(0, 1))
	wantTaken(t, "the first place", r, entity(0, 2))
}

func TestP6_1_ListIsNewMemory(t *testing.T) {
	r := made(t, api.MaxEntities)
	for n := range api.MaxEntities {
		want := append(r.List(), taken(t, r))
		if want[n] != entity(n, 1) {
			t.Fatal(want)
		}
		told := r.List()
		other := r.List()
		for i := range told {
			told[i] = entity(-7, -7)
		}
		_ = append(told, entity(-7, -7))
		if cap(told) > len(told) {
			told[:cap(told)][len(told)] = entity(-7, -7)
		}
		if !slices.Equal(other, want) || !slices.Equal(r.List(), want) || r.Count() != n+1 {
			t.Fatalf("List %v, %v, want %v", other, r.List(), want)
		}
		for _, e := range want {
			if !r.Alive(e) {
				t.Fatal("not alive:", e)
			}
		}
	}
	told := r.List()
	kept := slices.Clone(told)
	wantFreed(t, r, entity(5, 1), entity(0, 1))
	wantTaken(t, "again", r, entity(0, 2))
	if !slices.Equal(told, kept) {
		t.Error("a list that was told changes with the roll:", told)
	}
	if slices.Equal(r.List(), kept) || len(r.List()) != api.MaxEntities-1 {
		t.Error(r.List())
	}
}

func TestP6_1_AskingChangesNothing(t *testing.T) {
	p := newPair(t, 4)
	ask := func() {
		for range 3 {
			p.r.List()
			p.r.Count()
			p.r.Most()
			p.r.Alive(entity(0, 1))
			p.r.Alive(entity(3, 9))
		}
	}
	ask()
	for range 3 {
		p.take()
		ask()
	}
	p.free(entity(1, 1))
	ask()
	p.take()
	ask()
	p.take()
}

func TestP6_1_RollsAreApart(t *testing.T) {
	a, b := newPair(t, 3), newPair(t, 3)
	a.take()
	a.take()
	b.take()
	a.free(entity(0, 1))
	b.same()
	b.free(entity(1, 1))
	a.take()
	b.take()
	a.same()
	newPair(t, 3).same()
}

// TestP6_1_AllShortRows plays all rows of calls of some length: Take, or Free of one that may be.
func TestP6_1_AllShortRows(t *testing.T) {
	for most := range 4 {
		frees := []api.Entity{entity(0, 1), entity(0, 2), entity(1, 1), entity(1, 2), entity(2, 1)}
		calls := len(frees) + 1
		const length = 6
		rows := 1
		for range length {
			rows *= calls
		}
		for row := range rows {
			p := newPair(t, most)
			for n, left := 0, row; n < length; n, left = n+1, left/calls {
				if call := left % calls; call < len(frees) {
					p.free(frees[call])
				} else {
					p.take()
				}
			}
		}
	}
}

func TestP6_1_DrawnRows(t *testing.T) {
	draw := rand.New(rand.NewSource(6))
	for range 300 {
		most := []int{0, 1, 2, 3, 5, 8, 31, 63, 64}[draw.Intn(9)]
		p := newPair(t, most)
		takes := draw.Intn(8) + 1
		for range 200 {
			switch n := draw.Intn(12); {
			case n < takes:
				p.take()
			case n < 10 && len(p.b.given) > 0:
				p.free(p.b.given[max(0, len(p.b.given)-1-draw.Intn(most+2))])
			default:
				p.free(entity(draw.Intn(most+4)-2, draw.Intn(6)-1))
			}
		}
	}
}

func TestP6_2_NoEntityTwiceAndNoneAgain(t *testing.T) {
	draw := rand.New(rand.NewSource(7))
	for _, most := range []int{1, 2, 7, 64} {
		r := made(t, most)
		var there, gone []api.Entity
		ever := make(map[api.Entity]struct{})
		for range 1500 {
			if len(there) == most || len(there) > 0 && draw.Intn(2) == 0 {
				n := draw.Intn(len(there))
				e := there[n]
				there = slices.Delete(there, n, n+1)
				gone = append(gone, e)
				wantFreed(t, r, e)
			} else {
				e := taken(t, r)
				if _, again := ever[e]; again {
					t.Fatal("given twice:", e)
				}
				if e.Index < 0 || e.Index >= most {
					t.Fatal("no place's index:", e)
				}
				ever[e] = struct{}{}
				there = append(there, e)
			}
			for _, e := range there {
				if !r.Alive(e) {
					t.Fatal("not alive:", e)
				}
			}
			for _, e := range gone {
				if r.Alive(e) {
					t.Fatal("alive again:", e)
				}
			}
			wants(t, "Free of one that is gone", r.Free(append(gone, entity(0, 0))[draw.Intn(len(gone)+1)]), api.ErrDead)
		}
		if len(ever) <= most {
			t.Errorf("of %d places %d entities: none is used again", most, len(ever))
		}
	}
}

func TestP6_2_PlacesAreUsedAgain(t *testing.T) {
	for _, most := range []int{1, 2, 64} {
		r := made(t, most)
		for range most {
			taken(t, r)
		}
		for n := range 1000 {
			list := r.List()
			old := list[n%most]
			wantFreed(t, r, old)
			e := taken(t, r)
			if e.Index != old.Index || e.Gen != old.Gen+1 {
				t.Fatalf("behind Free %v: %v", old, e)
			}
			wantFull(t, r)
		}
	}
}
