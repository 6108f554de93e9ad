package world_test

import (
	"fmt"
	"slices"
	"testing"

	"pasodoble/api"
	"pasodoble/blame"
	"pasodoble/store"
	"pasodoble/world"
)

func TestP14_1_New(t *testing.T) {
	for _, most := range []int{0, 1, 2, 63, 64} {
		for _, seed := range append(values, ends...) {
			w, err := world.New(five(), most, seed)
			if err != nil {
				t.Fatalf("New %d, %d: %v", most, seed, err)
			}
			wantState(t, fmt.Sprint("New ", most, seed), w, api.State{Next: 1, Seed: seed, Resources: []int{3, -1}})
			if len(w.View()) != 0 {
				t.Errorf("New %d, %d: View %v", most, seed, w.View())
			}
		}
	}
}

func TestP14_1_NewOfAnEmptySchema(t *testing.T) {
	w, err := world.New(api.Schema{}, 2, 5)
	if err != nil {
		t.Fatal(err)
	}
	wantState(t, "no components", w, api.State{Next: 1, Seed: 5})
	spawned(t, w)
	wants(t, "Spawn of a component that there isn't", only(w.Spawn(part(0, 0))), api.ErrArg)
	wants(t, "Insert of a component that there isn't", w.Insert(1, 0), api.ErrArg)
	wants(t, "Assign of a resource that there isn't", w.Assign(0, 0), api.ErrNone)
	wantState(t, "one without parts", w, api.State{Next: 2, Seed: 5, Beings: []api.Being{being(1)}})
}

func TestP14_1_NewOfTheGreatestSchema(t *testing.T) {
	var s api.Schema
	var parts []api.Part
	st := api.State{Next: 2}
	for i := range api.MaxComponents {
		s.Components = append(s.Components, api.Component{Name: "c" + string(rune('a'+i)), Width: 4, Rollback: i%3 != 0})
		parts = append(parts, api.Part{Comp: i, Values: [4]int{i, -i, i * i, 7}, Tick: i})
	}
	for i := range api.MaxResources {
		s.Resources = append(s.Resources, api.Resource{Name: "r" + string(rune('a'+i)), Value: 1 << i})
		st.Resources = append(st.Resources, 1<<i)
	}
	w, err := world.New(s, 1, 0)
	if err != nil {
		t.Fatal(err)
	}
	spawned(t, w, parts...)
	st.Beings = []api.Being{{ID: 1, Parts: slices.DeleteFunc(slices.Clone(parts), func(p api.Part) bool { return p.Comp%3 == 0 })}}
	wantState(t, "all components", w, st)
	if view := w.View(); len(view) != 1 || !slices.Equal(view[0].Parts, parts) {
		t.Errorf("View %v", view)
	}
}

// wrongSchemas are some that can't be, each by another thing, and one by many.
func wrongSchemas() []api.Schema {
	list := make([]api.Schema, 7)
	for i := range list {
		list[i] = five()
	}
	list[0].Components[1].Name = "pos"
	list[1].Components[2].Width = 5
	list[2].Components[1].Default[1] = 1
	list[3].Resources[1].Name = "hue"
	list[4].Resources = append(list[4].Resources, make([]api.Resource, 7)...)
	list[5].Components[0].Name = ""
	list[6].Components = append(list[6].Components, make([]api.Component, 12)...)
	return list
}

// TestP14_1_NewOfASchemaThatCantBe asks for all of layer 9's error, by its ways.
func TestP14_1_NewOfASchemaThatCantBe(t *testing.T) {
	for i, s := range wrongSchemas() {
		for _, most := range []int{0, 3, -1, 65} {
			name := fmt.Sprint("the wrong schema ", i, " for ", most)
			_, want := store.New(s, most)
			w, err := world.New(s, most, 1)
			wantsLike(t, name, w, err, want)
			w, err = world.Build(s, most, api.State{Next: 1, Resources: make([]int, len(s.Resources))})
			wantsLike(t, name, w, err, want)
			w, err = world.Build(s, most, api.State{Frame: -1, Beings: make([]api.Being, 70)})
			wantsLike(t, name, w, err, want)
		}
	}
}

// wantsLike asks for an error with the leaves of another one, and no world.
func wantsLike(t *testing.T, name string, w *world.World, err, want error) {
	t.Helper()
	if w != nil || want == nil || !slices.Equal(blame.Leaves(err), blame.Leaves(want)) {
		t.Errorf("%s: %v, %v, want %v", name, w, blame.Leaves(err), blame.Leaves(want))
	}
}

func TestP14_1_NewWithPlacesThatCantBe(t *testing.T) {
	for _, most := range append([]int{65, 66, 128, 256, last, last + 1}, ends...) {
		name := fmt.Sprint(most, " places")
		w, err := world.New(five(), most, 1)
		wantsNoWorld(t, name, w, err, api.ErrArg)
		w, err = world.Build(five(), most, api.State{Next: 1, Resources: []int{3, -1}})
		wantsNoWorld(t, name, w, err, api.ErrArg)
		twice := api.State{Next: 2, Resources: []int{3, -1}, Beings: []api.Being{being(1, part(pos, 1), part(pos, 1))}}
		w, err = world.Build(five(), most, twice)
		wantsNoWorld(t, name, w, err, api.ErrArg)
	}
}

// good is a state that can be, of three beings, and one number that was given to nobody who is there.
func good() api.State {
	return api.State{
		Frame: 12, Next: 10, Seed: -5, Resources: []int{40, -41},
		Beings: []api.Being{being(2, fulls(1, pos, hp, vel)...), being(3), being(9, fulls(2, hp)...)},
	}
}

func TestP14_1_BuildHasJustThatState(t *testing.T) {
	for _, most := range []int{3, 4, 63, 64} {
		w := built(t, most, good())
		wantState(t, fmt.Sprint("Build for ", most), w, good())
		if fmt.Sprint(w.View()) != fmt.Sprint(good().Beings) {
			t.Errorf("Build for %d: View %v", most, w.View())
		}
		for _, b := range good().Beings {
			wantParts(t, "Build", w, b.ID, b.Parts...)
		}
	}
	none := api.State{Next: 1, Resources: []int{0, 0}}
	wantState(t, "nobody", built(t, 0, none), none)
}

// TestP14_1_BuildOfAnyNumbers: a seed, a Tick, a cell and a resource may be any.
func TestP14_1_BuildOfAnyNumbers(t *testing.T) {
	for _, n := range append(values, ends...) {
		st := good()
		st.Seed, st.Resources[1] = n, n
		st.Beings[0].Parts[0] = api.Part{Comp: pos, Values: [api.MaxWidth]int{n, n}, Tick: n}
		wantState(t, fmt.Sprint("numbers ", n), built(t, 3, st), st)
	}
}

// TestP14_1_BuildGoesOn asks that a world that was built goes on where the state ends.
func TestP14_1_BuildGoesOn(t *testing.T) {
	w := built(t, 4, good())
	if id := spawned(t, w, full(pos, 3)); id != 10 {
		t.Errorf("Spawn behind Next 10: %d", id)
	}
	wants(t, "Spawn without a place", only(w.Spawn()), api.ErrFull)
	for _, err := range []error{w.Despawn(3), w.Tick(), w.Set(9, hp, 0, 8), w.Insert(9, look), w.Assign(0, 41)} {
		if err != nil {
			t.Error(err)
		}
	}
	st := good()
	st.Frame, st.Next, st.Resources[0] = 13, 11, 41
	nine := api.Part{Comp: hp, Values: [api.MaxWidth]int{8}, Tick: 13}
	st.Beings = []api.Being{st.Beings[0], being(9, nine), being(10, full(pos, 3))}
	wantState(t, "gone on", w, st)
	wantParts(t, "gone on", w, 9, nine, api.Part{Comp: look, Values: begin[look], Tick: 13})
}

// TestP14_1_BuildOfPartsThatDontRise: it isn't said that they must; the world's own state has them rise.
func TestP14_1_BuildOfPartsThatDontRise(t *testing.T) {
	st := good()
	slices.Reverse(st.Beings[0].Parts)
	wantState(t, "parts that fall", built(t, 3, st), good())
}

// wrong is a state that is refused, for so many places.
type wrong struct {
	name string
	most int
	want error
	make func(st *api.State)
}

func TestP14_1_BuildOfFramesAndNumbers(t *testing.T) {
	for _, frame := range []int{0, 1, last - 1, last} {
		st := good()
		st.Frame = frame
		wantState(t, fmt.Sprint("Frame ", frame), built(t, 3, st), st)
	}
	for _, frame := range append([]int{last + 1}, ends...) {
		wantNotBuilt(t, wrong{fmt.Sprint("Frame ", frame), 3, api.ErrArg, func(st *api.State) { st.Frame = frame }})
	}
	for _, next := range []int{10, 11, last, last + 1} {
		st := good()
		st.Next = next
		wantState(t, fmt.Sprint("Next ", next), built(t, 3, st), st)
	}
	for _, next := range append([]int{0, 1, 2, 8, 9}, ends...) {
		wantNotBuilt(t, wrong{fmt.Sprint("Next ", next), 3, api.ErrArg, func(st *api.State) { st.Next = next }})
	}
	for _, next := range append([]int{0}, ends...) {
		wantNotBuilt(t, wrong{fmt.Sprint("nobody, Next ", next), 3, api.ErrArg, func(st *api.State) { st.Next, st.Beings = next, nil }})
	}
	for _, next := range []int{1, 2, last + 1} {
		st := good()
		st.Next, st.Beings = next, nil
		wantState(t, fmt.Sprint("nobody, Next ", next), built(t, 3, st), st)
	}
}

func TestP14_1_BuildOfTheLeastAndTheGreatestID(t *testing.T) {
	st := good()
	st.Next = last + 1
	st.Beings = []api.Being{being(1, full(hp, 1)), being(last, full(hp, 2))}
	w := built(t, 3, st)
	wantState(t, "both ends", w, st)
	wants(t, "no number left", only(w.Spawn()), api.ErrFull)
	wantState(t, "no number left", w, st)
	st.Next = last
	w, err := world.Build(five(), 3, st)
	wantsNoWorld(t, "the last number isn't given yet", w, err, api.ErrArg)
}

// wantNotBuilt asks that a good state, made wrong, is refused.
func wantNotBuilt(t *testing.T, c wrong) {
	t.Helper()
	st := good()
	c.make(&st)
	was := copied(st)
	w, err := world.Build(five(), c.most, st)
	wantsNoWorld(t, c.name, w, err, c.want)
	if !same(st, was) {
		t.Errorf("%s: the state that was handed in is %+v, was %+v", c.name, st, was)
	}
}

func TestP14_1_BuildOfWrongNumbersOfBeings(t *testing.T) {
	ids := func(list ...int) func(st *api.State) {
		return func(st *api.State) {
			for i := range st.Beings {
				st.Beings[i].ID = list[i]
			}
		}
	}
	for _, list := range [][]int{
		{3, 2, 9}, {2, 2, 9}, {2, 9, 9}, {2, 9, 3}, {9, 3, 2}, {9, 9, 9}, {0, 3, 9}, {-1, 3, 9}, {0, 0, 0}, {-3, -2, -1},
		{2, 3, 10}, {2, 3, 11}, {2, 10, 11}, {10, 11, 12}, {2, 3, 1 << 32}, {2, 3, 1<<32 + 9}, {-1 << 63, 3, 9}, {2, 3, 1<<63 - 1},
		{2, 10, 9}, {10, 3, 9},
	} {
		wantNotBuilt(t, wrong{fmt.Sprint("IDs ", list), 3, api.ErrArg, ids(list...)})
	}
	for _, list := range [][]int{{1, 2, 3}, {7, 8, 9}, {1, 2, 9}} {
		st := good()
		ids(list...)(&st)
		wantState(t, fmt.Sprint("IDs ", list), built(t, 3, st), st)
	}
}

func TestP14_1_BuildOfWrongParts(t *testing.T) {
	for at := range 3 {
		for _, p := range misfits() {
			c := wrong{fmt.Sprintf("the being %d with %v", at, p), 3, api.ErrArg, nil}
			c.make = func(st *api.State) { st.Beings[at].Parts = []api.Part{p} }
			wantNotBuilt(t, c)
			c.make = func(st *api.State) { st.Beings[at].Parts = append(fulls(1, pos, vel), p) }
			wantNotBuilt(t, c)
		}
		for _, shown := range []int{look, hue} {
			c := wrong{fmt.Sprintf("the being %d with what is only shown, %d", at, shown), 3, api.ErrArg, nil}
			c.make = func(st *api.State) { st.Beings[at].Parts = fulls(1, shown) }
			wantNotBuilt(t, c)
			c.make = func(st *api.State) { st.Beings[at].Parts = fulls(1, pos, hp, shown) }
			wantNotBuilt(t, c)
		}
	}
}

func TestP14_1_BuildOfTwoPartsOfOneComp(t *testing.T) {
	for at := range 3 {
		for _, comp := range []int{pos, hp, vel} {
			c := wrong{fmt.Sprintf("the being %d with %d twice", at, comp), 3, api.ErrTwice, nil}
			c.make = func(st *api.State) { st.Beings[at].Parts = fulls(1, comp, comp) }
			wantNotBuilt(t, c)
			c.make = func(st *api.State) { st.Beings[at].Parts = append(fulls(1, pos, hp, vel), full(comp, 2)) }
			wantNotBuilt(t, c)
		}
	}
}

func TestP14_1_BuildOfMoreThanMost(t *testing.T) {
	keep := func(st *api.State) {}
	for _, most := range []int{0, 1, 2} {
		wantNotBuilt(t, wrong{fmt.Sprint("three for ", most), most, api.ErrFull, keep})
	}
	crowd := func(many int) func(st *api.State) {
		return func(st *api.State) {
			st.Beings, st.Next = nil, many+1
			for id := range many {
				st.Beings = append(st.Beings, being(id+1, full(pos, id)))
			}
		}
	}
	wantNotBuilt(t, wrong{"65 for 64", 64, api.ErrFull, crowd(65)})
	wantNotBuilt(t, wrong{"one for none", 0, api.ErrFull, crowd(1)})
	wantNotBuilt(t, wrong{"70000 for 64", 64, api.ErrFull, crowd(70000)})
	st := good()
	crowd(64)(&st)
	wantState(t, "64 for 64", built(t, 64, st), st)
}

func TestP14_1_BuildOfWrongResources(t *testing.T) {
	for _, list := range [][]int{nil, {}, {3}, {3, -1, 0}, make([]int, 8), make([]int, 1<<16)} {
		wantNotBuilt(t, wrong{fmt.Sprint(len(list), " resources"), 3, api.ErrArg, func(st *api.State) { st.Resources = list }})
	}
	w, err := world.Build(api.Schema{}, 3, api.State{Next: 1, Resources: []int{0}})
	wantsNoWorld(t, "one resource too many", w, err, api.ErrArg)
	w, err = world.Build(api.Schema{}, 3, api.State{Next: 1, Resources: []int{}})
	if w == nil || err != nil {
		t.Errorf("no resource: %v", err)
	}
}

// wrongs are what can be wrong with a state, each by one error; what is put together is wrong by the one that the
// chapter names first, wherever each stands.
func wrongs() []wrong {
	return []wrong{
		{"Frame", 9, api.ErrArg, func(st *api.State) { st.Frame = -1 }},
		{"Next", 9, api.ErrArg, func(st *api.State) { st.Next = last + 2 }},
		{"an ID of 0", 9, api.ErrArg, func(st *api.State) { st.Beings[0].ID = 0 }},
		{"the last ID", 9, api.ErrArg, func(st *api.State) { st.Beings[2].ID = 10 }},
		{"an ID twice", 9, api.ErrArg, func(st *api.State) { st.Beings[1].ID = 2 }},
		{"a part that doesn't fit", 9, api.ErrArg, func(st *api.State) {
			p := full(hp, 1)
			p.Values[1] = 1
			st.Beings[2].Parts = append(st.Beings[2].Parts, p)
		}},
		{"a part that is only shown", 9, api.ErrArg, func(st *api.State) { st.Beings[1].Parts = append(st.Beings[1].Parts, full(look, 1)) }},
		{"no resources", 9, api.ErrArg, func(st *api.State) { st.Resources = nil }},
		{"twice at first", 9, api.ErrTwice, func(st *api.State) { st.Beings[0].Parts = append(st.Beings[0].Parts, full(vel, 1)) }},
		{"twice at last", 9, api.ErrTwice, func(st *api.State) { st.Beings[2].Parts = append(st.Beings[2].Parts, full(hp, 1)) }},
		{"two places", 2, api.ErrFull, func(*api.State) {}},
		{"no place", 0, api.ErrFull, func(*api.State) {}},
	}
}

func TestP14_1_BuildInWhichOrderErrorsAreTold(t *testing.T) {
	list := wrongs()
	for i, a := range list {
		wantNotBuilt(t, a)
		for j, b := range list[i:] {
			both := wrong{a.name + " and " + b.name, min(a.most, b.most), a.want, func(st *api.State) { b.make(st); a.make(st) }}
			wantNotBuilt(t, both)
			for _, c := range list[i+j:] {
				all := wrong{both.name + " and " + c.name, min(both.most, c.most), a.want, func(st *api.State) { c.make(st); both.make(st) }}
				wantNotBuilt(t, all)
			}
		}
	}
}

func TestP14_1_RecordOfNothing(t *testing.T) {
	var none *world.World
	none.Record(nil)
	none.Record(marked(t, 1))
	w := built(t, 3, good())
	w.Record(nil)
	wantState(t, "Record of nil", w, good())
	w.Record(marked(t, 1))
	wantState(t, "Record", w, good())
}

// only is the error of a call that answers something beside it.
func only[T any](_ T, err error) error { return err }
