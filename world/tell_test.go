package world_test

import (
	"fmt"
	"math"
	"slices"
	"testing"

	"pasodoble/api"
	"pasodoble/world"
)

func TestP14_4_GetAndParts(t *testing.T) {
	x := staged(t)
	x.wantParts("all", 1, fulls(1, pos, hp, look, vel, hue)...)
	x.wantParts("two", 2, fulls(2, pos, look)...)
	x.wantParts("none", 3)
	for id := 1; id <= 3; id++ {
		for _, comp := range noComps() {
			p, err := x.Get(id, comp)
			wantsNoPart(t, fmt.Sprint("Get ", id, comp), p, err, api.ErrNone)
		}
	}
	for _, id := range noIDs() {
		wantGone(t, "nobody", x.World, id)
		for _, comp := range noComps() {
			p, err := x.Get(id, comp)
			wantsNoPart(t, fmt.Sprint("Get ", id, comp), p, err, api.ErrDead)
		}
	}
}

// TestP14_4_WhatTellsChangesNothing: neither the world nor the journal.
func TestP14_4_WhatTellsChangesNothing(t *testing.T) {
	x := staged(t)
	before, noted := told(x.World), toldOf(x.j)
	for id := range 5 {
		x.Parts(id)
		for comp := range 6 {
			x.Get(id, comp)
			x.Resource(comp)
		}
	}
	if now := told(x.World); now != before {
		t.Errorf("the world is\n%s\nit was\n%s", now, before)
	}
	if now := toldOf(x.j); now != noted {
		t.Errorf("the journal is\n%s\nit was\n%s", now, noted)
	}
}

func wantQuery(t *testing.T, w *world.World, f api.Filter, want ...int) {
	t.Helper()
	if got := w.Query(f); !slices.Equal(got, want) {
		t.Errorf("Query %+v in the frame %d: %v, want %v", f, w.Frame(), got, want)
	}
}

func TestP14_4_Query(t *testing.T) {
	x := staged(t)
	wantQuery(t, x.World, api.Filter{}, 1, 2, 3)
	wantQuery(t, x.World, api.Filter{With: 1 << pos}, 1, 2)
	wantQuery(t, x.World, api.Filter{With: 1 << look}, 1, 2) // taken as it is, without layer 11's Check
	wantQuery(t, x.World, api.Filter{With: 1<<pos | 1<<vel}, 1)
	wantQuery(t, x.World, api.Filter{Without: 1 << hp}, 2, 3)
	wantQuery(t, x.World, api.Filter{With: 1 << pos, Without: 1 << hp}, 2)
	wantQuery(t, x.World, api.Filter{With: 1 << 31})
	wantQuery(t, x.World, api.Filter{With: math.MaxUint32})
	wantQuery(t, x.World, api.Filter{Without: math.MaxUint32}, 3)
	wantQuery(t, x.World, api.Filter{With: 1, Without: 1})
}

// TestP14_4_QueryInTheFrame: what was changed lately hangs on the frame that the world is in.
func TestP14_4_QueryInTheFrame(t *testing.T) {
	w := made(t, 4, 0)
	for tick := range 4 {
		spawned(t, w, api.Part{Comp: hp, Tick: tick})
	}
	changed := api.Filter{With: 1 << hp, Changed: 1 << hp}
	for _, want := range [][]int{{1, 2, 3, 4}, {1, 2, 3, 4}, {2, 3, 4}, {3, 4}, {4}, {}, {}} {
		wantQuery(t, w, changed, want...)
		w.Tick()
	}
	w.Set(2, hp, 0, 1)
	wantQuery(t, w, changed, 2)
	w.Tick()
	wantQuery(t, w, changed, 2)
	w.Remove(2, hp)
	w.Insert(2, hp)
	w.Tick()
	wantQuery(t, w, changed, 2)
	w.Tick()
	wantQuery(t, w, changed)
	w.Undo(api.Undo{Kind: api.UndoFrame, Old: 3})
	wantQuery(t, w, changed, 2, 3, 4)
}

// TestP14_4_QueryByNumbers: rising, wherever they stand: the places of 1 and 2 are used again.
func TestP14_4_QueryByNumbers(t *testing.T) {
	w := made(t, 5, 0)
	for n := range 5 {
		spawned(t, w, part(hp, n))
	}
	for _, id := range []int{1, 2, 4} {
		w.Despawn(id)
	}
	spawned(t, w, part(hp, 7))
	spawned(t, w, part(pos, 7))
	w.Undo(api.Undo{Kind: api.UndoDespawn, ID: 2, Parts: fulls(1, hp)})
	wantQuery(t, w, api.Filter{}, 2, 3, 5, 6, 7)
	wantQuery(t, w, api.Filter{With: 1 << hp}, 2, 3, 5, 6)
	var ids []int
	for _, b := range w.View() {
		ids = append(ids, b.ID)
	}
	for _, b := range w.State().Beings {
		ids = append(ids, b.ID)
	}
	if !slices.Equal(ids, []int{2, 3, 5, 6, 7, 2, 3, 5, 6, 7}) {
		t.Errorf("View and State: %v", ids)
	}
}

func TestP14_4_StateAndView(t *testing.T) {
	x := staged(t)
	wantState(t, "staged", x.World, api.State{Frame: 4, Next: 4, Seed: 77, Resources: []int{3, -1}, Beings: []api.Being{
		being(1, fulls(1, pos, hp, vel)...), being(2, fulls(2, pos)...), being(3),
	}})
	wantView(t, "staged", x.World, being(1, fulls(1, pos, hp, look, vel, hue)...), being(2, fulls(2, pos, look)...), being(3))
	x.Despawn(1)
	x.Insert(3, hue)
	spawned(t, x.World, fulls(4, hue, look)...)
	wantState(t, "changed", x.World, api.State{Frame: 4, Next: 5, Seed: 77, Resources: []int{3, -1}, Beings: []api.Being{
		being(2, fulls(2, pos)...), being(3), being(4),
	}})
	wantView(t, "changed", x.World, being(2, fulls(2, pos, look)...), being(3, began(hue, 4)), being(4, fulls(4, look, hue)...))
}

func wantView(t *testing.T, name string, w *world.World, want ...api.Being) {
	t.Helper()
	if got := w.View(); fmt.Sprint(got) != fmt.Sprint(want) {
		t.Errorf("%s: View %v, want %v", name, got, want)
	}
}

func TestP14_4_ACrowd(t *testing.T) {
	w := made(t, api.MaxEntities, 0)
	st := api.State{Next: 65, Resources: []int{3, -1}}
	var view []api.Being
	for n := range api.MaxEntities {
		spawned(t, w, fulls(n, hue, vel, n%2)...)
		st.Beings = append(st.Beings, being(n+1, fulls(n, n%2, vel)...))
		view = append(view, being(n+1, fulls(n, n%2, vel, hue)...))
	}
	wantState(t, "64", w, st)
	wantView(t, "64", w, view...)
	wants(t, "65", only(w.Spawn()), api.ErrFull)
}

// others are states that differ from good in one thing each.
func others() []api.State {
	list := make([]api.State, 20)
	for i := range list {
		list[i] = good()
	}
	list[0].Frame++
	list[1].Next++
	list[2].Seed++
	list[3].Resources[0]++
	list[4].Resources[1]--
	list[5].Resources = list[5].Resources[:1]
	list[6].Resources = append(list[6].Resources, 0)
	list[7].Resources = nil
	list[8].Beings[0].ID--
	list[9].Beings[2].ID--
	list[10].Beings = list[10].Beings[:2]
	list[11].Beings = append(list[11].Beings, api.Being{})
	list[12].Beings = nil
	list[13].Beings[0].Parts = list[13].Beings[0].Parts[:2]
	list[14].Beings[1].Parts = []api.Part{{}}
	list[15].Beings[2].Parts[0].Comp++
	list[16].Beings[2].Parts[0].Tick++
	list[17].Beings[0].Parts[2].Values[3]++
	list[18].Beings[0].Parts[0].Values[0]++
	slices.Reverse(list[19].Beings[0].Parts)
	return list
}

func TestP14_4_Same(t *testing.T) {
	states := append(others(), good(), api.State{}, api.State{Next: 1})
	for i, a := range states {
		for j, b := range states {
			if got := world.Same(a, copied(b)); got != (i == j) {
				t.Errorf("Same of %+v and %+v: %v", a, b, got)
			}
		}
	}
}

// TestP14_4_SameOfNilAndEmpty: lists nil or empty are one, in every place.
func TestP14_4_SameOfNilAndEmpty(t *testing.T) {
	a := api.State{Next: 3, Beings: []api.Being{{ID: 1}, {ID: 2, Parts: []api.Part{}}}}
	b := api.State{Next: 3, Beings: []api.Being{{ID: 1, Parts: []api.Part{}}, {ID: 2}}, Resources: []int{}}
	none := api.State{Next: 3, Beings: []api.Being{}}
	if !world.Same(a, b) || !world.Same(b, a) {
		t.Error("Same of empty lists and nil ones")
	}
	if !world.Same(none, api.State{Next: 3}) || !world.Same(api.State{Next: 3}, none) || world.Same(none, a) {
		t.Error("Same of empty beings and nil ones")
	}
}

func TestP14_4_SameOfRawNumbers(t *testing.T) {
	for _, n := range append(values, ends...) {
		raw := api.State{Frame: n, Next: n, Seed: n, Resources: []int{n}, Beings: []api.Being{
			{ID: n, Parts: []api.Part{{Comp: n, Values: [api.MaxWidth]int{n, n, n, n}, Tick: n}}}, {ID: n},
		}}
		if !world.Same(raw, copied(raw)) || world.Same(raw, good()) {
			t.Errorf("Same of numbers %d", n)
		}
	}
}

// TestP14_4_ANilWorld: every call, at every argument.
func TestP14_4_ANilWorld(t *testing.T) {
	var w *world.World
	w.Record(unmarked(t))
	n := 0
	for _, id := range append([]int{0, 1, 2}, ends...) {
		id, drawn := id, 0
		for name, call := range map[string]func() error{
			"Spawn":   func() (err error) { n, err = w.Spawn(part(id, 1)); return err },
			"Despawn": func() error { return w.Despawn(id) },
			"Insert":  func() error { return w.Insert(id, id) },
			"Remove":  func() error { return w.Remove(id, id) },
			"Set":     func() error { return w.Set(id, id, id, id) },
			"Assign":  func() error { return w.Assign(id, id) },
			"Draw":    func() (err error) { drawn, err = w.Draw(id); return err },
			"Tick":    w.Tick,
		} {
			wants(t, name+" of a nil world", call(), api.ErrNil)
			if n != 0 || drawn != 0 {
				t.Errorf("%s of a nil world: %d, %d beside the error", name, n, drawn)
			}
		}
		for kind := range 12 {
			wants(t, "Undo of a nil world", w.Undo(api.Undo{Kind: kind, ID: id, N: id, Old: id}), api.ErrNil)
		}
		p, err := w.Get(id, id)
		wantsNoPart(t, "Get of a nil world", p, err, api.ErrNil)
		parts, err := w.Parts(id)
		wants(t, "Parts of a nil world", err, api.ErrNil)
		if len(parts) != 0 {
			t.Errorf("Parts of a nil world: %v beside the error", parts)
		}
		if n, ok := w.Resource(id); n != 0 || ok {
			t.Errorf("Resource %d of a nil world: %d, %v", id, n, ok)
		}
	}
	for _, f := range filters {
		wantQuery(t, w, f)
	}
	if w.Frame() != 0 || w.Count() != 0 || len(w.View()) != 0 || !same(w.State(), api.State{}) {
		t.Errorf("a nil world: %s", told(w))
	}
}
