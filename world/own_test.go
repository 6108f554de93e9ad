package world_test

import (
	"fmt"
	"slices"
	"testing"

	"pasodoble/api"
	"pasodoble/world"
)

// roomyParts are parts with room behind them that a call might write to.
func roomyParts(parts ...api.Part) []api.Part {
	list := append(make([]api.Part, 0, len(parts)+8), parts...)
	room := list[len(list):cap(list)]
	for i := range room {
		room[i] = full(hue, 40+i)
	}
	return list
}

// wantRoom asks that parts and the room behind them are as roomyParts made them.
func wantRoom(t *testing.T, name string, got []api.Part, parts ...api.Part) {
	t.Helper()
	want := roomyParts(parts...)
	if !slices.Equal(got[:cap(got)], want[:cap(want)]) {
		t.Errorf("%s: handed in were %v, now %v", name, want[:cap(want)], got[:cap(got)])
	}
}

// scribble changes all of a list, and the room behind it.
func scribble(parts []api.Part) {
	for i := range parts[:cap(parts)] {
		parts[:cap(parts)][i] = api.Part{Comp: vel, Values: [api.MaxWidth]int{-9, -9, -9, -9}, Tick: -9}
	}
}

func TestP14_1_TheSchemaIsNotKept(t *testing.T) {
	s := five()
	w, err := world.New(s, 3, 1)
	if err != nil {
		t.Fatal(err)
	}
	b, err := world.Build(s, 3, good())
	if err != nil {
		t.Fatal(err)
	}
	for i := range s.Components {
		s.Components[i] = api.Component{Name: "x", Width: 4, Rollback: !rolls[i], Default: [api.MaxWidth]int{-1, -1, -1, -1}}
	}
	for i := range s.Resources {
		s.Resources[i] = api.Resource{Name: "y", Value: -7}
	}
	spawned(t, w, full(look, 1))
	for _, x := range []*stage{recorded(t, w), recorded(t, b)} {
		id := x.View()[0].ID
		for comp := range comps {
			x.Remove(id, comp)
			var want []api.Undo
			if rolls[comp] {
				want = []api.Undo{{Kind: api.UndoInsert, ID: id, Part: api.Part{Comp: comp}}}
			}
			x.wantNotes("Insert", func() error { return x.Insert(id, comp) }, want...)
		}
		f := x.Frame()
		x.wantParts("as the schema was", id, began(pos, f), began(hp, f), began(look, f), began(vel, f), began(hue, f))
		x.wantRefused("Spawn of what doesn't fit", api.ErrArg, func() error { return none(x, api.Part{Comp: hp, Values: [api.MaxWidth]int{1, 1}}) })
	}
	wantState(t, "as the schema was", w, api.State{Next: 2, Seed: 1, Resources: []int{3, -1}, Beings: []api.Being{
		being(1, began(pos, 0), began(hp, 0), began(vel, 0)),
	}})
}

func TestP14_1_TheStateIsNotKept(t *testing.T) {
	st := good()
	st.Beings[0].Parts = roomyParts(st.Beings[0].Parts...)
	w := built(t, 5, st)
	wantRoom(t, "Build", st.Beings[0].Parts, good().Beings[0].Parts...)
	scribble(st.Beings[0].Parts)
	scribble(st.Beings[2].Parts)
	clear(st.Beings)
	clear(st.Resources)
	wantState(t, "the state that was handed in is another one", w, good())
	st = good()
	was := copied(st)
	w = built(t, 5, st)
	w.Set(2, pos, 0, 9)
	w.Assign(0, 9)
	w.Despawn(9)
	if !same(st, was) {
		t.Errorf("the world is another one, and so is the state that was handed in: %+v", st)
	}
}

func TestP14_2_PartsAreNotKept(t *testing.T) {
	x := staged(t)
	handed := roomyParts(fulls(5, hue, pos)...)
	id := spawned(t, x.World, handed...)
	wantNotKept(x, "Spawn", id, handed, fulls(5, hue, pos)...)
}

func TestP14_3_PartsAreNotKept(t *testing.T) {
	x := staged(t)
	x.Despawn(2)
	handed := roomyParts(fulls(6, vel, look, pos)...)
	if err := x.Undo(api.Undo{Kind: api.UndoDespawn, ID: 2, Parts: handed}); err != nil {
		t.Fatal(err)
	}
	wantNotKept(x, "Undo", 2, handed, fulls(6, vel, look, pos)...)
}

// wantNotKept asks that a list of parts that were handed in, pos among them, was left as it was, and that neither it
// nor who has the parts is changed where the other one is.
func wantNotKept(x *stage, name string, id int, handed []api.Part, parts ...api.Part) {
	x.Helper()
	wantRoom(x.T, name, handed, parts...)
	if err := x.Set(id, pos, 0, 3); err != nil {
		x.Error(err)
	}
	wantRoom(x.T, name+" and Set", handed, parts...)
	scribble(handed)
	for i, p := range parts {
		if p.Comp == pos {
			parts[i] = with(p, 0, 3, x.Frame())
		}
	}
	x.wantParts(name+" of what is another list now", id, sorted(parts)...)
	x.Despawn(id)
	for _, p := range handed[:cap(handed)] {
		if p.Comp != vel || p.Tick != -9 {
			x.Errorf("%s and Despawn: %v stands in what was handed in", name, p)
		}
	}
}

// TestP14_2_WhatIsNotedIsTheJournals: who changes what the journal tells changes neither it nor the world.
func TestP14_2_WhatIsNotedIsTheJournals(t *testing.T) {
	x := staged(t)
	st := x.State()
	x.Despawn(1)
	x.Set(2, pos, 0, 5)
	noted := toldOf(x.j)
	list, _ := x.j.Since(0)
	for i := range list {
		scribble(list[i].Parts)
		list[i] = api.Undo{}
	}
	if now := toldOf(x.j); now != noted {
		t.Errorf("the journal is %s, was %s", now, noted)
	}
	x.undoAll(0)
	wantState(t, "back again", x.World, st)
	x.wantParts("back again", 1, fulls(1, pos, hp, look, vel, hue)...)
}

func TestP14_4_AnswersAreNewMemory(t *testing.T) {
	x := staged(t)
	before := told(x.World)
	for range 2 {
		for id := 1; id <= 3; id++ {
			parts, _ := x.Parts(id)
			scribble(parts)
		}
		ids := x.Query(api.Filter{})
		clear(ids[:cap(ids)])
		spoil(x.View())
		st := x.State()
		spoil(st.Beings)
		clear(st.Resources[:cap(st.Resources)])
		if now := told(x.World); now != before {
			t.Fatalf("the world is\n%s\nit was\n%s", now, before)
		}
	}
}

// spoil changes all of the beings' lists, each behind the other, and then the list itself.
func spoil(list []api.Being) {
	for _, b := range list {
		scribble(b.Parts)
	}
	clear(list[:cap(list)])
}

// TestP14_4_NoTwoListsShare: what is changed and grown in one list of an answer isn't seen in another one.
func TestP14_4_NoTwoListsShare(t *testing.T) {
	x := staged(t)
	for name, list := range map[string][]api.Being{"View": x.View(), "State": x.State().Beings} {
		want := fmt.Sprint(list[1:])
		scribble(list[0].Parts)
		if got := fmt.Sprint(list[1:]); got != want {
			t.Errorf("%s: %s, was %s", name, got, want)
		}
	}
	a, b := x.State(), x.State()
	spoil(a.Beings)
	clear(a.Resources)
	wantState(t, "another answer", x.World, b)
}

// TestP14_1_TwoWorldsHaveNothingInCommon, of one schema and of one state.
func TestP14_1_TwoWorldsHaveNothingInCommon(t *testing.T) {
	s, st := five(), good()
	var list []*stage
	for range 3 {
		fresh, err := world.New(s, 5, 77)
		if err != nil {
			t.Fatal(err)
		}
		for n := range 3 {
			spawned(t, fresh, fulls(n, pos, look, hp)...)
		}
		again, err := world.Build(s, 5, st)
		if err != nil {
			t.Fatal(err)
		}
		list = append(list, recorded(t, fresh), recorded(t, again))
	}
	for i, x := range list {
		var before []string
		for _, other := range list {
			before = append(before, told(other.World)+toldOf(other.j))
		}
		for _, b := range x.View() {
			x.Set(b.ID, hp, 0, 90)
			x.Insert(b.ID, hue)
			x.Remove(b.ID, look)
		}
		x.Assign(1, 9)
		x.Draw(6)
		x.Tick()
		x.Spawn()
		x.Despawn(2)
		x.Undo(api.Undo{Kind: api.UndoSeed, Old: 1})
		for j, other := range list {
			now := told(other.World) + toldOf(other.j)
			if (now == before[j]) != (i != j) {
				t.Errorf("what was done to the world %d: the world %d is\n%s\nwas\n%s", i, j, now, before[j])
			}
		}
	}
}
