package world_test

import (
	"fmt"
	"math"
	"slices"
	"testing"

	"pasodoble/api"
	"pasodoble/world"
)

// takes asks that an Undo answers no error, and notes nothing.
func (x *stage) takes(u api.Undo) {
	x.Helper()
	u.Parts = slices.Clone(u.Parts)
	x.wantUnnoted(fmt.Sprintf("Undo %+v", u), func() error { return x.Undo(u) })
}

// refuses asks that an Undo answers just this error, and changes and notes nothing.
func (x *stage) refuses(u api.Undo, want error) {
	x.Helper()
	x.wantRefused(fmt.Sprintf("Undo %+v", u), want, func() error { return x.Undo(u) })
}

// parted are the kinds that ask for who has a number.
var parted = []int{api.UndoCells, api.UndoSpawn, api.UndoInsert, api.UndoRemove}

func TestP14_3_UndoOfNobody(t *testing.T) {
	x := staged(t)
	for _, id := range noIDs() {
		for _, kind := range parted {
			for _, p := range append(misfits()[:3], full(pos, 7), full(look, 7), api.Part{}) {
				x.refuses(api.Undo{Kind: kind, ID: id, Part: p}, api.ErrDead)
			}
		}
	}
	x.Despawn(2)
	for _, kind := range parted {
		x.refuses(api.Undo{Kind: kind, ID: 2, Part: full(pos, 7)}, api.ErrDead)
	}
}

func TestP14_3_UndoOfCells(t *testing.T) {
	x := staged(t)
	st := x.State()
	for comp := range comps {
		x.takes(api.Undo{Kind: api.UndoCells, ID: 1, Part: full(comp, 8)})
	}
	x.wantParts("all others", 1, fulls(8, pos, hp, look, vel, hue)...)
	st.Beings[0].Parts = fulls(8, pos, hp, vel)
	wantState(t, "UndoCells", x.World, st)
	for _, n := range append(values, ends...) {
		p := api.Part{Comp: pos, Values: [api.MaxWidth]int{n, n}, Tick: n}
		x.takes(api.Undo{Kind: api.UndoCells, ID: 2, Part: p})
		x.wantParts("any numbers", 2, p, full(look, 2))
	}
	x.wantParts("nobody else", 1, fulls(8, pos, hp, look, vel, hue)...)
}

func TestP14_3_UndoOfCellsThatIsRefused(t *testing.T) {
	x := staged(t)
	for _, p := range misfits() {
		x.refuses(api.Undo{Kind: api.UndoCells, ID: 1, Part: p}, api.ErrArg)
		x.refuses(api.Undo{Kind: api.UndoCells, ID: 3, Part: p}, api.ErrArg)
	}
	for comp := range comps {
		x.refuses(api.Undo{Kind: api.UndoCells, ID: 3, Part: full(comp, 8)}, api.ErrNone)
	}
	for _, comp := range []int{hp, vel, hue} {
		x.refuses(api.Undo{Kind: api.UndoCells, ID: 2, Part: full(comp, 8)}, api.ErrNone)
	}
}

func TestP14_3_UndoOfSpawn(t *testing.T) {
	x := staged(t)
	st := x.State()
	for _, id := range []int{2, 1, 3} {
		x.takes(api.Undo{Kind: api.UndoSpawn, ID: id, Part: full(pos, 1), Parts: fulls(1, hp), N: 3, Old: 2})
		wantGone(t, "UndoSpawn", x.World, id)
		x.refuses(api.Undo{Kind: api.UndoSpawn, ID: id}, api.ErrDead)
		st.Beings = slices.DeleteFunc(st.Beings, func(b api.Being) bool { return b.ID == id })
		wantState(t, "UndoSpawn", x.World, st)
	}
}

func TestP14_3_UndoOfDespawn(t *testing.T) {
	x := staged(t)
	x.Despawn(1)
	x.Despawn(3)
	st := x.State()
	handed := fulls(6, hue, vel, pos)
	u := api.Undo{Kind: api.UndoDespawn, ID: 1, Parts: handed}
	x.wantUnnoted("UndoDespawn", func() error { return x.Undo(u) })
	clear(handed)
	x.wantParts("with these parts", 1, fulls(6, pos, vel, hue)...)
	st.Beings = slices.Insert(st.Beings, 0, being(1, fulls(6, pos, vel)...))
	wantState(t, "UndoDespawn", x.World, st)
	x.takes(api.Undo{Kind: api.UndoDespawn, ID: 3})
	x.wantParts("without parts", 3)
	st.Beings = append(st.Beings, being(3))
	wantState(t, "UndoDespawn", x.World, st)
	for comp := range comps {
		x.Despawn(2)
		x.takes(api.Undo{Kind: api.UndoDespawn, ID: 2, Parts: []api.Part{part(comp, math.MinInt)}})
		x.wantParts("one part", 2, part(comp, math.MinInt))
	}
	if id := spawned(t, x.World); id != 4 {
		t.Errorf("Spawn: %d, want 4: the next number is as it was", id)
	}
}

func TestP14_3_UndoOfDespawnThatIsRefused(t *testing.T) {
	x := staged(t)
	x.Despawn(2)
	for _, id := range append([]int{1, 2, 3, 4}, noIDs()...) {
		for _, p := range misfits()[:9] {
			x.refuses(api.Undo{Kind: api.UndoDespawn, ID: id, Parts: []api.Part{part(hp, 1), part(hp, 1), p}}, api.ErrArg)
		}
		x.refuses(api.Undo{Kind: api.UndoDespawn, ID: id, Parts: fulls(1, look, hp, look)}, api.ErrTwice)
	}
	for _, id := range []int{1, 3} {
		x.refuses(api.Undo{Kind: api.UndoDespawn, ID: id, Parts: fulls(1, pos)}, api.ErrTwice)
	}
	for _, id := range noIDs() {
		x.refuses(api.Undo{Kind: api.UndoDespawn, ID: id, Parts: fulls(1, pos)}, api.ErrArg)
	}
	for range 3 { // places for all five are still there, and the next number is as it was
		spawned(t, x.World, full(hp, 1))
	}
	for _, id := range append([]int{1, 2, 7}, noIDs()...) {
		x.refuses(api.Undo{Kind: api.UndoDespawn, ID: id, Parts: fulls(1, pos)}, api.ErrFull)
		x.refuses(api.Undo{Kind: api.UndoDespawn, ID: id, Parts: fulls(1, pos, pos)}, api.ErrTwice)
		x.refuses(api.Undo{Kind: api.UndoDespawn, ID: id, Parts: []api.Part{part(comps, 1)}}, api.ErrArg)
	}
	if st := x.State(); st.Next != 7 || len(st.Beings) != 5 {
		t.Errorf("behind all: %+v", st)
	}
}

func TestP14_3_UndoOfInsert(t *testing.T) {
	x := staged(t)
	st := x.State()
	left := fulls(1, pos, hp, look, vel, hue)
	for _, comp := range []int{vel, hue, pos, look, hp} {
		p := full(comp, 9)
		p.Values[3] = 5 // the cells aren't asked for
		x.takes(api.Undo{Kind: api.UndoInsert, ID: 1, Part: p})
		left = slices.DeleteFunc(left, func(p api.Part) bool { return p.Comp == comp })
		x.wantParts("UndoInsert", 1, left...)
		x.refuses(api.Undo{Kind: api.UndoInsert, ID: 1, Part: p}, api.ErrNone)
	}
	st.Beings[0].Parts = nil
	wantState(t, "UndoInsert", x.World, st)
	for _, comp := range append(noComps(), hp, vel, hue) {
		x.refuses(api.Undo{Kind: api.UndoInsert, ID: 2, Part: api.Part{Comp: comp}}, api.ErrNone)
	}
	x.wantParts("nobody else", 2, fulls(2, pos, look)...)
}

func TestP14_3_UndoOfRemove(t *testing.T) {
	x := staged(t)
	st := x.State()
	for _, p := range misfits() {
		x.refuses(api.Undo{Kind: api.UndoRemove, ID: 1, Part: p}, api.ErrArg)
		x.refuses(api.Undo{Kind: api.UndoRemove, ID: 3, Part: p}, api.ErrArg)
	}
	for _, comp := range []int{vel, hue, pos, look, hp} {
		x.takes(api.Undo{Kind: api.UndoRemove, ID: 3, Part: full(comp, 9)})
		x.refuses(api.Undo{Kind: api.UndoRemove, ID: 3, Part: full(comp, 9)}, api.ErrTwice)
		x.refuses(api.Undo{Kind: api.UndoRemove, ID: 1, Part: full(comp, 9)}, api.ErrTwice)
	}
	x.wantParts("UndoRemove", 3, fulls(9, pos, hp, look, vel, hue)...)
	st.Beings[2].Parts = fulls(9, pos, hp, vel)
	wantState(t, "UndoRemove", x.World, st)
	x.takes(api.Undo{Kind: api.UndoRemove, ID: 2, Part: part(hp, math.MinInt)})
	x.wantParts("any numbers", 2, full(pos, 2), part(hp, math.MinInt), full(look, 2))
}

func TestP14_3_UndoOfResource(t *testing.T) {
	x := staged(t)
	st := x.State()
	for _, old := range append(values, ends...) {
		for i := range 2 {
			x.takes(api.Undo{Kind: api.UndoResource, N: i, Old: old, ID: 9, Part: full(pos, 1)})
			st.Resources[i] = old
			wantState(t, "UndoResource", x.World, st)
		}
	}
	for _, i := range append([]int{2, 3, 7, 8, 256}, ends...) {
		x.refuses(api.Undo{Kind: api.UndoResource, N: i, Old: 1}, api.ErrNone)
	}
}

func TestP14_3_UndoOfNext(t *testing.T) {
	x := staged(t)
	st := x.State()
	for _, next := range []int{4, 5, 64, last, last + 1, 4} {
		x.takes(api.Undo{Kind: api.UndoNext, Old: next, ID: 9, N: 9})
		st.Next = next
		wantState(t, "UndoNext", x.World, st)
	}
	for _, next := range append([]int{0, 1, 2, 3}, ends...) {
		x.refuses(api.Undo{Kind: api.UndoNext, Old: next}, api.ErrArg)
	}
	for id := 3; id > 0; id-- {
		x.takes(api.Undo{Kind: api.UndoSpawn, ID: id})
		x.takes(api.Undo{Kind: api.UndoNext, Old: id})
		x.refuses(api.Undo{Kind: api.UndoNext, Old: id - 1}, api.ErrArg)
	}
	if id := spawned(t, x.World); id != 1 {
		t.Errorf("Spawn: %d, want 1 again", id)
	}
}

func TestP14_3_UndoOfSeed(t *testing.T) {
	x := staged(t)
	st := x.State()
	for _, old := range append(values, ends...) {
		x.takes(api.Undo{Kind: api.UndoSeed, Old: old, ID: 9, N: 9})
		st.Seed = old
		wantState(t, "UndoSeed", x.World, st)
	}
}

func TestP14_3_UndoOfFrame(t *testing.T) {
	x := staged(t)
	st := x.State()
	for _, old := range []int{0, 1, 3, 800, last - 1, last, 4} {
		x.takes(api.Undo{Kind: api.UndoFrame, Old: old, ID: 9, N: 9})
		st.Frame = old
		wantState(t, "UndoFrame", x.World, st)
	}
	for _, old := range append([]int{last + 1}, ends...) {
		x.refuses(api.Undo{Kind: api.UndoFrame, Old: old}, api.ErrArg)
	}
}

func TestP14_3_UndoOfNoKind(t *testing.T) {
	x := staged(t)
	for _, kind := range append([]int{0, api.UndoFrame + 1, api.UndoFrame + 2, 256 + 1, 1<<32 + api.UndoSeed}, ends...) {
		x.refuses(api.Undo{Kind: kind}, api.ErrArg)
		x.refuses(api.Undo{Kind: kind, ID: 1, Part: full(pos, 9), Parts: fulls(9, hp), N: 1, Old: 5}, api.ErrArg)
		x.refuses(api.Undo{Kind: kind, ID: 9, N: 9, Old: -1}, api.ErrArg)
	}
}

// TestP14_3_UndoWithoutAJournal: it is the same call, whether there is one or not.
func TestP14_3_UndoWithoutAJournal(t *testing.T) {
	for _, record := range []func(w *world.World){
		func(w *world.World) { w.Record(nil) },
		func(w *world.World) { w.Record(marked(t, 1)) },
		func(w *world.World) { w.Record(unmarked(t)) },
	} {
		x := staged(t)
		st, view := x.State(), fmt.Sprint(x.View())
		for i, err := range []error{x.Tick(), x.Set(1, pos, 0, 9), only(x.Spawn(full(hp, 1))), x.Despawn(2), only(x.Draw(3))} {
			if err != nil {
				t.Fatal(i, err)
			}
		}
		list, err := x.j.Back(0)
		if err != nil || len(list) != 6 {
			t.Fatal(list, err)
		}
		record(x.World)
		for _, u := range list {
			if err := x.Undo(u); err != nil {
				t.Errorf("Undo %+v: %v", u, err)
			}
		}
		wantState(t, "all taken back", x.World, st)
		if now := fmt.Sprint(x.View()); now != view {
			t.Errorf("View %s, want %s", now, view)
		}
		if x.j.Len() != 0 {
			t.Errorf("noted: %s", toldOf(x.j))
		}
	}
}
