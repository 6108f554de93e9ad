package badge_test

import (
	"errors"
	"fmt"
	"math"
	"slices"
	"testing"

	"pasodoble/api"
	"pasodoble/badge"
	"pasodoble/blame"
)

// last is the last number that can be given.
const last = api.MaxFrame

// ends are numbers at both ends of 64 bits and of 32 bits, and some that wrap round to a small one.
var ends = []int{
	math.MinInt, math.MinInt + 1, -1 << 32, -1<<32 + 1, math.MinInt32, -last, -64, -2, -1,
	1<<31 - 1, 1 << 31, 1<<32 - 1, 1 << 32, 1<<32 + 1, math.MaxInt - 1, math.MaxInt,
}

// pair is a number and whose it is.
type pair struct {
	id int
	e  api.Entity
}

func entity(index, gen int) api.Entity { return api.Entity{Index: index, Gen: gen} }

// being is one of many entities of which no two are the same.
func being(i int) api.Entity { return entity(i, 1) }

// wants asks that this one of the named errors is told, and no other one.
func wants(t *testing.T, name string, err, want error) {
	t.Helper()
	leaves := blame.Leaves(err)
	for _, leaf := range leaves {
		if leaf.Number != blame.Number(want) {
			t.Errorf("%s: %v, want %v alone", name, leaves, want)
		}
	}
	if !errors.Is(err, want) {
		t.Errorf("%s: %v %v, want %v", name, err, leaves, want)
	}
}

// wantsNoNumber asks that an error is told, and no number beside it.
func wantsNoNumber(t *testing.T, name string, number int, err, want error) {
	t.Helper()
	wants(t, name, err, want)
	if number != 0 {
		t.Errorf("%s: %d beside the error", name, number)
	}
}

// wantsNobody asks that an error is told, and no entity beside it.
func wantsNobody(t *testing.T, name string, e api.Entity, err, want error) {
	t.Helper()
	wants(t, name, err, want)
	if e != (api.Entity{}) {
		t.Errorf("%s: %v beside the error", name, e)
	}
}

func wantGive(t *testing.T, b *badge.Badges, e api.Entity, want int) {
	t.Helper()
	if id, err := b.Give(e); id != want || err != nil {
		t.Fatalf("Give %v: %d, %v, want %d", e, id, err, want)
	}
}

func wantPin(t *testing.T, b *badge.Badges, id int, e api.Entity) {
	t.Helper()
	if err := b.Pin(id, e); err != nil {
		t.Fatalf("Pin %d, %v: %v", id, e, err)
	}
}

func wantDrop(t *testing.T, b *badge.Badges, id int, want api.Entity) {
	t.Helper()
	if e, err := b.Drop(id); e != want || err != nil {
		t.Fatalf("Drop %d: %v, %v, want %v", id, e, err, want)
	}
}

func wantTurn(t *testing.T, b *badge.Badges, next, want int) {
	t.Helper()
	if was, err := b.Turn(next); was != want || err != nil {
		t.Fatalf("Turn %d: %d, %v, want %d", next, was, err, want)
	}
}

func wantNoGive(t *testing.T, b *badge.Badges, e api.Entity, want error) {
	t.Helper()
	id, err := b.Give(e)
	wantsNoNumber(t, fmt.Sprint("Give ", e), id, err, want)
}

func wantNoPin(t *testing.T, b *badge.Badges, id int, e api.Entity, want error) {
	t.Helper()
	wants(t, fmt.Sprint("Pin ", id, e), b.Pin(id, e), want)
}

func wantNoDrop(t *testing.T, b *badge.Badges, id int) {
	t.Helper()
	e, err := b.Drop(id)
	wantsNobody(t, fmt.Sprint("Drop ", id), e, err, api.ErrNone)
}

func wantNoTurn(t *testing.T, b *badge.Badges, next int) {
	t.Helper()
	was, err := b.Turn(next)
	wantsNoNumber(t, fmt.Sprint("Turn ", next), was, err, api.ErrArg)
}

func wantUnowned(t *testing.T, name string, b *badge.Badges, ids ...int) {
	t.Helper()
	for _, id := range ids {
		if e, ok := b.Entity(id); ok || e != (api.Entity{}) {
			t.Errorf("%s: Entity %d: %v, %v, want nobody", name, id, e, ok)
		}
	}
}

func wantUnnumbered(t *testing.T, name string, b *badge.Badges, list ...api.Entity) {
	t.Helper()
	for _, e := range list {
		if id, ok := b.ID(e); ok || id != 0 {
			t.Errorf("%s: ID %v: %d, %v, want none", name, e, id, ok)
		}
	}
}

// wantAll asks for all that badges tell: the next number, and just these owners, by rising numbers.
func wantAll(t *testing.T, name string, b *badge.Badges, next int, owners ...pair) {
	t.Helper()
	if b.Next() != next || b.Len() != len(owners) {
		t.Fatalf("%s: Next %d, Len %d, want %d, %d", name, b.Next(), b.Len(), next, len(owners))
	}
	var ids []int
	for _, own := range owners {
		ids = append(ids, own.id)
		if e, ok := b.Entity(own.id); e != own.e || !ok {
			t.Fatalf("%s: Entity %d: %v, %v, want %v", name, own.id, e, ok, own.e)
		}
		if id, ok := b.ID(own.e); id != own.id || !ok {
			t.Fatalf("%s: ID %v: %d, %v, want %d", name, own.e, id, ok, own.id)
		}
	}
	if got := b.List(); !slices.Equal(got, ids) {
		t.Fatalf("%s: List %v, want %v", name, got, ids)
	}
}

func TestP10_1_New(t *testing.T) {
	b := badge.New()
	if b == nil {
		t.Fatal("New: nil")
	}
	wantAll(t, "New", b, 1)
	wantUnowned(t, "New", b, append(ends, 0, 1, 2)...)
	wantUnnumbered(t, "New", b, entity(0, 0), entity(0, 1), entity(1, 1))
}

func TestP10_1_EachNewIsAnotherOne(t *testing.T) {
	a, b := badge.New(), badge.New()
	wantGive(t, a, being(1), 1)
	wantAll(t, "what is done to another one", b, 1)
	wantGive(t, b, being(2), 1)
	wantAll(t, "what is done to another one", a, 2, pair{1, being(1)})
}

func TestP10_1_Example(t *testing.T) {
	b := badge.New()
	one, two, three := entity(0, 1), entity(1, 1), entity(0, 2)
	wantGive(t, b, one, 1)
	wantGive(t, b, two, 2)
	wantDrop(t, b, 1, one)
	wantPin(t, b, 1, three)
	wantAll(t, "the example", b, 3, pair{1, three}, pair{2, two})
	wantUnnumbered(t, "the example", b, one)
}

func TestP10_1_NilBadges(t *testing.T) {
	var b *badge.Badges
	if b.Next() != 0 || b.Len() != 0 || len(b.List()) != 0 {
		t.Error("Next, Len, List", b.Next(), b.Len(), b.List())
	}
	for _, x := range append(ends, 0, 1, 2, last, last+1, last+2) {
		wantUnowned(t, "nil", b, x)
		e, err := b.Drop(x)
		wantsNobody(t, "Drop", e, err, api.ErrNil)
		was, err := b.Turn(x)
		wantsNoNumber(t, "Turn", was, err, api.ErrNil)
		for _, y := range append(ends, 0, 1) {
			wantUnnumbered(t, "nil", b, entity(x, y))
			id, err := b.Give(entity(x, y))
			wantsNoNumber(t, "Give", id, err, api.ErrNil)
			wants(t, "Pin", b.Pin(x, entity(y, x)), api.ErrNil)
		}
	}
}

func TestP10_1_GiveInARow(t *testing.T) {
	b := badge.New()
	var owners []pair
	for i := range 300 {
		wantGive(t, b, being(300-i), i+1)
		owners = append(owners, pair{i + 1, being(300 - i)})
		wantAll(t, fmt.Sprint("Give ", i), b, i+2, owners...)
	}
}

func TestP10_1_GiveAnyEntity(t *testing.T) {
	b := badge.New()
	var owners []pair
	numbers := append([]int{0, 1, 2, 63, 64}, ends...)
	for _, index := range numbers {
		for _, gen := range numbers {
			wantGive(t, b, entity(index, gen), len(owners)+1)
			owners = append(owners, pair{len(owners) + 1, entity(index, gen)})
		}
	}
	wantAll(t, "entities of every sign", b, len(owners)+1, owners...)
	for _, own := range owners {
		wantNoGive(t, b, own.e, api.ErrTwice)
	}
	wantAll(t, "given once more", b, len(owners)+1, owners...)
	for _, own := range owners {
		wantDrop(t, b, own.id, own.e)
		wantPin(t, b, own.id, own.e)
	}
	wantAll(t, "dropped and pinned", b, len(owners)+1, owners...)
}

func TestP10_1_GiveOfOneThatHasANumberOrHadOne(t *testing.T) {
	b := badge.New()
	wantGive(t, b, being(0), 1)
	wantGive(t, b, being(1), 2)
	wantNoGive(t, b, being(0), api.ErrTwice)
	wantNoGive(t, b, being(1), api.ErrTwice)
	wantAll(t, "given twice", b, 3, pair{1, being(0)}, pair{2, being(1)})
	wantDrop(t, b, 1, being(0))
	wantGive(t, b, being(0), 3)
	wantAll(t, "given behind a drop", b, 4, pair{2, being(1)}, pair{3, being(0)})
	wantNoGive(t, b, being(0), api.ErrTwice)
	wantPin(t, b, 1, being(7))
	wantNoGive(t, b, being(7), api.ErrTwice)
	wantAll(t, "given behind a pin", b, 4, pair{1, being(7)}, pair{2, being(1)}, pair{3, being(0)})
}

func TestP10_1_GiveTheLastNumber(t *testing.T) {
	b := badge.New()
	wantTurn(t, b, last-1, 1)
	wantGive(t, b, being(0), last-1)
	wantGive(t, b, being(1), last)
	both := []pair{{last - 1, being(0)}, {last, being(1)}}
	wantAll(t, "the last number", b, last+1, both...)
	wantNoGive(t, b, being(2), api.ErrFull)
	wantNoGive(t, b, being(1), api.ErrTwice)
	wantAll(t, "one more", b, last+1, both...)
	wantUnnumbered(t, "one more", b, being(2))
	wantPin(t, b, 1, being(2))
	wantNoPin(t, b, last+1, being(3), api.ErrArg)
	wantDrop(t, b, last, being(1))
	wantNoGive(t, b, being(1), api.ErrFull)
	wantPin(t, b, last, being(3))
	wantAll(t, "pinned", b, last+1, pair{1, being(2)}, pair{last - 1, being(0)}, pair{last, being(3)})
}

func TestP10_1_GiveAtTheTurnedEnd(t *testing.T) {
	b := badge.New()
	wantTurn(t, b, last+1, 1)
	wantNoGive(t, b, being(0), api.ErrFull)
	wantTurn(t, b, last, last+1)
	wantGive(t, b, being(0), last)
	wantNoGive(t, b, being(1), api.ErrFull)
	wantAll(t, "at the end", b, last+1, pair{last, being(0)})
}

func TestP10_1_PinFromOneToBelowTheNext(t *testing.T) {
	b := badge.New()
	for _, id := range append(ends, 0, 1, 2) {
		wantNoPin(t, b, id, being(0), api.ErrArg)
	}
	wantAll(t, "Pin of new badges", b, 1)
	wantTurn(t, b, 2, 1)
	for _, id := range append(ends, 0, 2, 3) {
		wantNoPin(t, b, id, being(0), api.ErrArg)
	}
	wantPin(t, b, 1, being(0))
	wantTurn(t, b, 100, 2)
	for _, id := range append(ends, 0, 100, 101, last, last+1) {
		wantNoPin(t, b, id, being(1), api.ErrArg)
	}
	wantPin(t, b, 99, being(1))
	wantPin(t, b, 2, being(2))
	wantAll(t, "Pin", b, 100, pair{1, being(0)}, pair{2, being(2)}, pair{99, being(1)})
	wantTurn(t, b, last+1, 100)
	wantNoPin(t, b, last+1, being(3), api.ErrArg)
	wantPin(t, b, last, being(3))
	wantAll(t, "Pin of the last", b, last+1, pair{1, being(0)}, pair{2, being(2)}, pair{99, being(1)}, pair{last, being(3)})
}

func TestP10_1_PinAnyEntity(t *testing.T) {
	b := badge.New()
	wantTurn(t, b, 1000, 1)
	var owners []pair
	for _, index := range append(ends, 0) {
		for _, gen := range append(ends, 0) {
			id := len(owners) + 1
			wantPin(t, b, id, entity(index, gen))
			owners = append(owners, pair{id, entity(index, gen)})
		}
	}
	wantAll(t, "Pin", b, 1000, owners...)
}

func TestP10_1_PinOfWhatIsTaken(t *testing.T) {
	b := badge.New()
	wantGive(t, b, being(0), 1)
	wantGive(t, b, being(1), 2)
	wantGive(t, b, being(2), 3)
	wantDrop(t, b, 2, being(1))
	rest := []pair{{1, being(0)}, {3, being(2)}}
	wantNoPin(t, b, 1, being(1), api.ErrTwice) // somebody's
	wantNoPin(t, b, 3, being(9), api.ErrTwice)
	wantNoPin(t, b, 2, being(0), api.ErrTwice) // of one that has another one
	wantNoPin(t, b, 2, being(2), api.ErrTwice)
	wantNoPin(t, b, 1, being(2), api.ErrTwice) // both
	wantNoPin(t, b, 1, being(0), api.ErrTwice) // its own
	wantAll(t, "refused", b, 4, rest...)
	wantUnowned(t, "refused", b, 2)
	wantUnnumbered(t, "refused", b, being(1), being(9))
	wantPin(t, b, 2, being(1))
	wantAll(t, "pinned again", b, 4, pair{1, being(0)}, pair{2, being(1)}, pair{3, being(2)})
}

func TestP10_1_PinTellsTheArgumentFirst(t *testing.T) {
	b := badge.New()
	wantGive(t, b, being(0), 1)
	for _, id := range append(ends, 0, 2, 3) {
		wantNoPin(t, b, id, being(0), api.ErrArg)
	}
	wantAll(t, "refused", b, 2, pair{1, being(0)})
}

func TestP10_1_PinTakesNoPlaceOfTheNext(t *testing.T) {
	b := badge.New()
	wantTurn(t, b, 5, 1)
	wantPin(t, b, 4, being(0))
	wantGive(t, b, being(1), 5)
	wantPin(t, b, 1, being(2))
	wantGive(t, b, being(3), 6)
	wantAll(t, "Give behind Pin", b, 7, pair{1, being(2)}, pair{4, being(0)}, pair{5, being(1)}, pair{6, being(3)})
}

func TestP10_1_Drop(t *testing.T) {
	b := badge.New()
	for _, id := range append(ends, 0, 1, 2) {
		wantNoDrop(t, b, id)
	}
	wantGive(t, b, entity(-5, math.MinInt), 1)
	wantGive(t, b, being(1), 2)
	for _, id := range append(ends, 0, 3, 4, last) {
		wantNoDrop(t, b, id)
	}
	wantAll(t, "nobody's dropped", b, 3, pair{1, entity(-5, math.MinInt)}, pair{2, being(1)})
	wantDrop(t, b, 1, entity(-5, math.MinInt))
	wantAll(t, "dropped", b, 3, pair{2, being(1)})
	wantUnowned(t, "dropped", b, 1)
	wantUnnumbered(t, "dropped", b, entity(-5, math.MinInt))
	wantNoDrop(t, b, 1)
	wantDrop(t, b, 2, being(1))
	wantNoDrop(t, b, 2)
	wantAll(t, "all dropped", b, 3)
	wantGive(t, b, being(1), 3)
	wantAll(t, "given again", b, 4, pair{3, being(1)})
}

func TestP10_1_DropOfTheZeroEntity(t *testing.T) {
	b := badge.New()
	wantGive(t, b, api.Entity{}, 1)
	if e, ok := b.Entity(1); e != (api.Entity{}) || !ok {
		t.Error("Entity 1", e, ok)
	}
	wantDrop(t, b, 1, api.Entity{})
	wantNoDrop(t, b, 1)
	wantAll(t, "dropped", b, 2)
}

func TestP10_1_TurnWithoutNumbers(t *testing.T) {
	b := badge.New()
	was := 1
	for _, next := range []int{1, 2, 1, 7, 7, last, 1, last + 1, last + 1, last, 3} {
		wantTurn(t, b, next, was)
		wantAll(t, fmt.Sprint("Turn ", next), b, next)
		was = next
	}
	for _, next := range append(ends, 0, last+2, last+3, 2*last) {
		wantNoTurn(t, b, next)
	}
	wantAll(t, "refused", b, 3)
}

func TestP10_1_TurnAboveAllNumbers(t *testing.T) {
	b := badge.New()
	for i := range 9 {
		wantGive(t, b, being(i), i+1)
	}
	for i := 8; i >= 0; i-- {
		if i != 4 {
			wantDrop(t, b, i+1, being(i))
		}
	}
	for _, next := range append(ends, 0, 1, 4, 5, last+2) {
		wantNoTurn(t, b, next)
	}
	wantAll(t, "refused", b, 10, pair{5, being(4)})
	wantTurn(t, b, 6, 10)
	wantAll(t, "Turn back", b, 6, pair{5, being(4)})
	wantNoPin(t, b, 6, being(0), api.ErrArg)
	wantGive(t, b, being(0), 6)
	wantNoTurn(t, b, 6)
	wantTurn(t, b, last+1, 7)
	wantTurn(t, b, last, last+1)
	wantGive(t, b, being(1), last)
	wantNoTurn(t, b, last)
	wantTurn(t, b, last+1, last+1)
	wantDrop(t, b, last, being(1))
	wantTurn(t, b, 7, last+1)
	wantAll(t, "Turn back and forth", b, 7, pair{5, being(4)}, pair{6, being(0)})
	wantDrop(t, b, 5, being(4))
	wantNoTurn(t, b, 5)
	wantDrop(t, b, 6, being(0))
	wantTurn(t, b, 1, 7)
	wantAll(t, "Turn back to the beginning", b, 1)
}

func TestP10_1_TurnBelowANumberAmongMany(t *testing.T) {
	b := badge.New()
	for i := range 64 {
		wantGive(t, b, being(i), i+1)
	}
	for next := range 65 {
		wantNoTurn(t, b, next)
	}
	for i := 63; i >= 0; i-- {
		wantDrop(t, b, i+1, being(i))
		wantTurn(t, b, i+1, i+2)
		wantNoTurn(t, b, i)
	}
	wantAll(t, "taken back one by one", b, 1)
	for i := range 64 {
		wantGive(t, b, being(64+i), i+1) // what was turned back is given again
	}
}

func TestP10_2_EntityAndIDOfWhatIsAndWas(t *testing.T) {
	b := badge.New()
	wantGive(t, b, entity(3, 1), 1)
	wantGive(t, b, entity(3, 2), 2)
	wantAll(t, "another generation", b, 3, pair{1, entity(3, 1)}, pair{2, entity(3, 2)})
	wantUnnumbered(t, "never", b, entity(3, 0), entity(3, 3), entity(1, 3), entity(2, 3), entity(-3, 1), entity(3, -1))
	wantUnowned(t, "never", b, append(ends, 0, 3, 4)...)
	wantDrop(t, b, 1, entity(3, 1))
	wantUnnumbered(t, "was", b, entity(3, 1))
	wantUnowned(t, "was", b, 1)
	wantPin(t, b, 1, entity(8, 8))
	wantUnnumbered(t, "another one has it", b, entity(3, 1))
	wantAll(t, "another one has it", b, 3, pair{1, entity(8, 8)}, pair{2, entity(3, 2)})
}

func TestP10_2_ListRisesHoweverItWasMade(t *testing.T) {
	b := badge.New()
	wantTurn(t, b, 41, 1)
	for _, id := range []int{40, 3, 17, 1, 39, 2, 25, 9} {
		wantPin(t, b, id, being(100-id))
	}
	wantGive(t, b, being(0), 41)
	wantDrop(t, b, 17, being(83))
	wantDrop(t, b, 1, being(99))
	wantPin(t, b, 30, being(1))
	for range 20 {
		if got, want := b.List(), []int{2, 3, 9, 25, 30, 39, 40, 41}; !slices.Equal(got, want) {
			t.Fatalf("List %v, want %v", got, want)
		}
	}
}

func TestP10_2_AskingChangesNothing(t *testing.T) {
	b := badge.New()
	wantGive(t, b, being(0), 1)
	for range 3 {
		wantUnowned(t, "asked", b, append(ends, 0, 2)...)
		wantUnnumbered(t, "asked", b, being(1), api.Entity{})
		wantAll(t, "asked", b, 2, pair{1, being(0)})
	}
}

func TestP10_2_ListIsNewMemory(t *testing.T) {
	b := badge.New()
	for i := range 5 {
		wantGive(t, b, being(i), i+1)
	}
	wantDrop(t, b, 3, being(2))
	told, kept := b.List(), b.List()
	for i := range told {
		told[i] = -9
	}
	_ = append(told[:1], 77, 78)
	owners := []pair{{1, being(0)}, {2, being(1)}, {4, being(3)}, {5, being(4)}}
	wantAll(t, "a told list changed", b, 6, owners...)
	wantDrop(t, b, 1, being(0))
	wantPin(t, b, 3, being(0))
	wantGive(t, b, being(9), 6)
	if !slices.Equal(kept, []int{1, 2, 4, 5}) {
		t.Error("a told list changed behind later calls", kept)
	}
}
