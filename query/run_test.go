package query_test

import (
	"fmt"
	"math"
	"slices"
	"strings"
	"testing"

	"pasodoble/api"
	"pasodoble/badge"
	"pasodoble/query"
	"pasodoble/store"
)

// scene is a store beside badges.
type scene struct {
	*testing.T
	s      *store.Store
	badges *badge.Badges
}

// staged is a scene without entities.
func staged(t *testing.T, s api.Schema, most int) *scene {
	t.Helper()
	made, err := store.New(s, most)
	if err != nil {
		t.Fatalf("New %v, %d: %v", s, most, err)
	}
	return &scene{T: t, s: made, badges: badge.New()}
}

// spawn is a new entity, without a number.
func (x *scene) spawn(parts ...api.Part) api.Entity {
	x.Helper()
	e, err := x.s.Spawn(parts...)
	if err != nil {
		x.Fatalf("Spawn %v: %v", parts, err)
	}
	return e
}

// give gives an entity the next number.
func (x *scene) give(e api.Entity) {
	x.Helper()
	if _, err := x.badges.Give(e); err != nil {
		x.Fatalf("Give %v: %v", e, err)
	}
}

// pin gives an entity a number, whatever the next one is.
func (x *scene) pin(id int, e api.Entity) {
	x.Helper()
	if id >= x.badges.Next() {
		x.badges.Turn(id + 1)
	}
	if err := x.badges.Pin(id, e); err != nil {
		x.Fatalf("Pin %d, %v: %v", id, e, err)
	}
}

// told is all that the store and the badges tell of what they hold.
func (x *scene) told() string {
	var text strings.Builder
	fmt.Fprintln(&text, x.s.Count(), x.s.Tables(), x.badges.Next(), x.badges.Len())
	for _, e := range x.s.Match(0, 0) {
		parts, err := x.s.Parts(e)
		fmt.Fprintln(&text, e, x.s.Alive(e), parts, err)
	}
	for _, id := range x.badges.List() {
		e, ok := x.badges.Entity(id)
		back, has := x.badges.ID(e)
		fmt.Fprintln(&text, id, e, ok, back, has)
	}
	return text.String()
}

// wants asks for a row from Run, Count and First, and that they changed nothing.
func (x *scene) wants(name string, f api.Filter, frame int, want ...int) {
	x.Helper()
	before := x.told()
	got := query.Run(x.s, x.badges, f, frame)
	if !slices.Equal(got, want) {
		x.Errorf("%s: Run %+v in %d: %v, want %v", name, f, frame, got, want)
	}
	for i := 1; i < len(got); i++ {
		if got[i] <= got[i-1] {
			x.Errorf("%s: Run %+v in %d doesn't rise: %v", name, f, frame, got)
		}
	}
	if many := query.Count(x.s, x.badges, f, frame); many != len(want) {
		x.Errorf("%s: Count %+v in %d: %d, want %d", name, f, frame, many, len(want))
	}
	least := append(slices.Clone(want), 0)[0]
	if id, ok := query.First(x.s, x.badges, f, frame); id != least || ok != (len(want) > 0) {
		x.Errorf("%s: First %+v in %d: %d, %v, want %v", name, f, frame, id, ok, want)
	}
	if now := x.told(); now != before {
		x.Fatalf("%s: %+v in %d changed the store or the badges:\n%s\nthey were:\n%s", name, f, frame, now, before)
	}
}

// filters are some of each kind.
var filters = []api.Filter{
	{}, {With: a}, {With: a | b}, {With: look}, {With: none}, {With: all}, {Without: a}, {Without: all}, {Without: 1 << 31},
	{Changed: a}, {Changed: none}, {Changed: all}, {With: a, Changed: a}, {With: a, Without: a}, {With: b, Without: a, Changed: b | c},
}

func TestP11_3_RunExample(t *testing.T) {
	x := staged(t, four(), 8)
	for tick := 6; tick < 12; tick++ {
		x.give(x.spawn(at(0, tick)))
	}
	x.give(x.spawn(at(1, 9)))
	x.wants("the example", api.Filter{With: a, Changed: a}, 9, 3, 4, 5, 6)
	x.wants("not changed", api.Filter{With: a}, 9, 1, 2, 3, 4, 5, 6)
	x.wants("everybody", api.Filter{}, 9, 1, 2, 3, 4, 5, 6, 7)
	x.wants("without", api.Filter{Without: a}, 9, 7)
}

func TestP11_3_RunOfNil(t *testing.T) {
	x := staged(t, four(), 4)
	x.give(x.spawn(at(0, 9)))
	x.give(x.spawn())
	for _, nobody := range []*scene{
		{T: t, s: nil, badges: x.badges}, {T: t, s: x.s, badges: nil}, {T: t, s: nil, badges: nil},
	} {
		for _, f := range filters {
			for _, frame := range []int{math.MinInt, -1, 0, 9, math.MaxInt} {
				nobody.wants("nil", f, frame)
			}
		}
	}
	x.wants("not nil", api.Filter{}, 0, 1, 2)
}

func TestP11_3_RunOfNobody(t *testing.T) {
	for _, most := range []int{0, 1, api.MaxEntities} {
		for _, s := range []api.Schema{{}, four(), rolledBack(api.MaxComponents, true)} {
			x := staged(t, s, most)
			for _, f := range filters {
				x.wants("no entities", f, 0)
			}
			x.give(api.Entity{Index: 0, Gen: 1})
			x.give(api.Entity{})
			for _, f := range filters {
				x.wants("no entities, but numbers", f, 0)
			}
		}
	}
}

func TestP11_3_RunWithoutComponents(t *testing.T) {
	x := staged(t, api.Schema{}, 3)
	for range 3 {
		x.give(x.spawn())
	}
	for _, f := range filters {
		if f.With == 0 && f.Changed == 0 {
			x.wants("no components", f, 0, 1, 2, 3)
		} else {
			x.wants("no components", f, 0)
		}
	}
}

func TestP11_3_RunOfEntitiesWithoutANumber(t *testing.T) {
	x := staged(t, four(), 6)
	var list []api.Entity
	for range 6 {
		list = append(list, x.spawn(at(0, 5)))
	}
	x.wants("no numbers", api.Filter{}, 0)
	x.wants("no numbers", api.Filter{With: a, Changed: a}, 0)
	x.give(list[3])
	x.give(list[1])
	x.wants("two numbers", api.Filter{With: a}, 0, 1, 2)
	x.badges.Drop(1)
	x.wants("a number dropped", api.Filter{With: a}, 0, 2)
	x.badges.Pin(1, list[5])
	x.wants("a number pinned", api.Filter{With: a}, 0, 1, 2)
	x.badges.Drop(2)
	x.badges.Drop(1)
	x.wants("all dropped", api.Filter{With: a}, 0)
}

func TestP11_3_RunOfEntitiesThatAreGone(t *testing.T) {
	x := staged(t, four(), 3)
	var list []api.Entity
	for range 3 {
		e := x.spawn(at(0, 5), at(1, 5))
		list = append(list, e)
		x.give(e)
	}
	x.wants("alive", api.Filter{With: a}, 5, 1, 2, 3)
	x.s.Despawn(list[0])
	x.wants("the first is gone", api.Filter{With: a}, 5, 2, 3)
	x.wants("the first is gone", api.Filter{}, 5, 2, 3)
	x.wants("the first is gone", api.Filter{Without: c}, 5, 2, 3)
	again := x.spawn(at(0, 5))
	x.wants("its place is given again, without a number", api.Filter{}, 5, 2, 3)
	x.give(again)
	x.wants("its place is given again", api.Filter{}, 5, 2, 3, 4)
	x.badges.Drop(1)
	x.badges.Drop(4)
	x.badges.Pin(1, again)
	x.wants("its number is given again", api.Filter{With: a, Without: b}, 5, 1)
	for _, e := range append(list, again) {
		x.s.Despawn(e)
	}
	for _, f := range filters {
		x.wants("all are gone", f, 5)
	}
}

func TestP11_3_RunOfEntitiesThatNeverWere(t *testing.T) {
	x := staged(t, four(), 4)
	numbers := []int{math.MinInt, -1 << 32, -64, -1, 0, 1, 2, 3, 4, 63, 64, 1 << 32, 1<<32 + 1, math.MaxInt}
	for _, index := range numbers {
		for _, gen := range numbers {
			if gen != 1 || index < 0 || index > 3 {
				x.give(api.Entity{Index: index, Gen: gen})
			}
		}
	}
	x.spawn(at(0, 5))
	for _, f := range filters {
		x.wants("never in the store", f, 5)
	}
	e := x.spawn(at(0, 5))
	x.pin(1000, e)
	x.wants("one that is", api.Filter{}, 5, 1000)
	x.wants("one that is", api.Filter{With: a, Without: b, Changed: a}, 5, 1000)
	x.wants("one that is", api.Filter{With: b}, 5)
}

func TestP11_3_RunGoesByNumbers(t *testing.T) {
	x := staged(t, four(), 6)
	for i, id := range []int{api.MaxFrame, 7, 900, 1, 8, 2} {
		var parts []api.Part
		if i%2 == 0 {
			parts = append(parts, at(2, i))
		}
		if i%3 != 0 {
			parts = append(parts, at(1, i))
		}
		x.pin(id, x.spawn(append(parts, at(0, i))...))
	}
	x.wants("everybody", api.Filter{}, 0, 1, 2, 7, 8, 900, api.MaxFrame)
	x.wants("a", api.Filter{With: a}, 0, 1, 2, 7, 8, 900, api.MaxFrame)
	x.wants("only shown", api.Filter{With: look}, 0, 8, 900, api.MaxFrame)
	x.wants("not shown", api.Filter{Without: look}, 0, 1, 2, 7)
	x.wants("b", api.Filter{With: b}, 0, 2, 7, 8, 900)
	x.wants("b, not shown", api.Filter{With: b, Without: look}, 0, 2, 7)
	x.wants("neither", api.Filter{Without: look | b}, 0, 1)
	x.wants("lately", api.Filter{Changed: a}, 3, 1, 2, 8, 900)
	x.wants("lately", api.Filter{With: b, Changed: a | b}, 5, 2, 8)
	x.wants("lately, one that With hasn't", api.Filter{With: a, Changed: b}, 5, 2, 8)
	x.wants("lately, only shown", api.Filter{Changed: look}, 2, 8, 900)
	x.wants("nobody", api.Filter{With: a, Without: a}, 0)
}

func TestP11_3_RunOfNumbersAboveTheLastComponent(t *testing.T) {
	x := staged(t, four(), 2)
	x.give(x.spawn(at(0, 5), at(3, 5)))
	x.give(x.spawn())
	for _, m := range []api.Mask{none, 1 << 15, 1 << 16, 1 << 31, none | 1<<31} {
		x.wants("with", api.Filter{With: m}, 0)
		x.wants("with", api.Filter{With: a | m}, 0)
		x.wants("changed", api.Filter{Changed: m}, 0)
		x.wants("changed", api.Filter{With: a, Changed: a | m}, 0)
		x.wants("without", api.Filter{Without: m}, 0, 1, 2)
		x.wants("without", api.Filter{With: a, Without: b | m, Changed: c}, 0, 1)
	}
	x.wants("every number", api.Filter{With: all}, 0)
	x.wants("every number", api.Filter{Without: all}, 0, 2)
	x.wants("every number", api.Filter{Without: all - a - c}, 0, 1, 2)
}

func TestP11_3_RunInEachFrame(t *testing.T) {
	for _, when := range frames {
		x := staged(t, four(), 8)
		ticks := []int{when.least - 1, when.least, math.MinInt, math.MaxInt, max(when.frame, when.least), when.least + 1}
		for _, tick := range ticks {
			x.give(x.spawn(at(0, tick), at(1, 0)))
		}
		name := fmt.Sprint("Ticks ", ticks)
		x.wants(name, api.Filter{With: a, Changed: a}, when.frame, 2, 4, 5, 6)
		x.wants(name, api.Filter{Changed: a}, when.frame, 2, 4, 5, 6)
		x.wants(name, api.Filter{With: a}, when.frame, 1, 2, 3, 4, 5, 6)
	}
}

func TestP11_3_RunBehindChanges(t *testing.T) {
	x := staged(t, four(), 3)
	var list []api.Entity
	for range 3 {
		e := x.spawn(at(0, 0), at(1, 0))
		list = append(list, e)
		x.give(e)
	}
	f := api.Filter{With: a, Changed: a}
	x.wants("at first", f, 10)
	x.s.Set(list[1], 0, 0, 7, 9)
	x.wants("set", f, 10, 2)
	x.wants("set", f, 11)
	x.s.Set(list[1], 1, 1, 7, 10)
	x.wants("another part set", f, 11)
	x.s.Put(list[2], at(0, 10))
	x.wants("put", f, 10, 2, 3)
	x.wants("put", f, 11, 3)
	x.s.Remove(list[2], 0)
	x.wants("removed", f, 10, 2)
	x.wants("removed", api.Filter{Without: a}, 10, 3)
	x.s.Insert(list[2], at(0, 12))
	x.wants("inserted", f, 13, 3)
	x.s.Remove(list[1], 1)
	x.wants("another table", f, 10, 2, 3)
	x.wants("another table", api.Filter{With: a, Without: b, Changed: a}, 10, 2)
}

// TestP11_3_RunWhereverTheyStand brings the same entities into the same sets by other ways, with the same numbers.
func TestP11_3_RunWhereverTheyStand(t *testing.T) {
	sets := []api.Mask{a | b, a, 0, a | b | c, c, a | look, b | c, a}
	var want []api.Part
	for comp := range 4 {
		want = append(want, at(comp, comp))
	}
	straight, around := staged(t, four(), 8), staged(t, four(), 8)
	for i, m := range sets {
		var parts []api.Part
		for comp := range 4 {
			if inSet(m, comp) {
				parts = append(parts, want[comp])
			}
		}
		straight.pin(i+1, straight.spawn(parts...))
	}
	for i := len(sets) - 1; i >= 0; i-- {
		around.pin(i+1, around.spawn(want...))
	}
	for i := range sets {
		j := i * 3 % len(sets)
		e, _ := around.badges.Entity(j + 1)
		for comp := 3; comp >= 0; comp-- {
			if !inSet(sets[j], comp) {
				around.s.Remove(e, comp)
			}
		}
	}
	for in := range api.Mask(16) {
		for out := range api.Mask(16) {
			for _, lately := range []api.Mask{0, a, b, in, c} {
				f := api.Filter{With: in, Without: out, Changed: lately}
				around.wants("the other way", f, 2, query.Run(straight.s, straight.badges, f, 2)...)
			}
		}
	}
	straight.wants("a and b", api.Filter{With: a | b}, 0, 1, 4)
	around.wants("a and b", api.Filter{With: a | b}, 0, 1, 4)
}

func TestP11_3_RunOfTheGreatestStore(t *testing.T) {
	x := staged(t, rolledBack(api.MaxComponents, true), api.MaxEntities)
	var list []api.Entity
	for i := range api.MaxEntities {
		var parts []api.Part
		for comp := range api.MaxComponents {
			if i>>(comp%6)%2 == 1 {
				parts = append(parts, at(comp, i))
			}
		}
		list = append(list, x.spawn(parts...))
	}
	for i := range list {
		x.give(list[len(list)-1-i]) // the entity i has the number 64 - i
	}
	var every, odd []int
	for id := 1; id <= api.MaxEntities; id++ {
		every = append(every, id)
		if (api.MaxEntities-id)%2 == 1 {
			odd = append(odd, id)
		}
	}
	x.wants("everybody", api.Filter{}, 0, every...)
	x.wants("odd", api.Filter{With: 1}, 0, odd...)
	x.wants("odd", api.Filter{With: 1 | 1<<6 | 1<<12, Changed: 1 << 12}, 0, odd...)
	x.wants("lately", api.Filter{Changed: 1}, 60, 1, 3, 5)
	x.wants("all", api.Filter{With: 1<<16 - 1}, 0, 1)
	x.wants("nothing", api.Filter{Without: 1<<16 - 1}, 0, 64)
}

func TestP11_3_RunAnswersNewMemory(t *testing.T) {
	x := staged(t, four(), 5)
	for range 5 {
		x.give(x.spawn(at(0, 1)))
	}
	first := query.Run(x.s, x.badges, api.Filter{With: a}, 0)
	second := query.Run(x.s, x.badges, api.Filter{With: a}, 0)
	for i := range first[:cap(first)] {
		first[:cap(first)][i] = -7
	}
	if !slices.Equal(second, []int{1, 2, 3, 4, 5}) {
		t.Error("two answers share memory:", second)
	}
	x.wants("the row changed", api.Filter{With: a}, 0, 1, 2, 3, 4, 5)
	list := x.badges.List()
	clear(list)
	x.wants("the badges' row changed", api.Filter{}, 0, 1, 2, 3, 4, 5)
}

func TestP11_3_TheSameCallsTellTheSame(t *testing.T) {
	play := func() string {
		x := staged(t, four(), 40)
		for i := range 40 {
			var parts []api.Part
			for comp := range 4 {
				if i*7>>comp%2 == 1 {
					parts = append(parts, at(comp, i%9))
				}
			}
			x.pin(1+i*23%41, x.spawn(parts...))
		}
		var text strings.Builder
		for _, f := range filters {
			for frame := range 10 {
				id, ok := query.First(x.s, x.badges, f, frame)
				fmt.Fprintln(&text, query.Run(x.s, x.badges, f, frame), query.Count(x.s, x.badges, f, frame), id, ok)
			}
		}
		return text.String()
	}
	first := play()
	for range 5 {
		if play() != first {
			t.Fatal("the same calls tell other rows")
		}
	}
}
