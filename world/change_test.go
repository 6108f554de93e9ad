package world_test

import (
	"errors"
	"fmt"
	"math"
	"slices"
	"testing"

	"pasodoble/api"
	"pasodoble/dice"
	"pasodoble/world"
)

// at is a part with another Tick.
func at(p api.Part, tick int) api.Part {
	p.Tick = tick
	return p
}

// began is a component's part as it begins, in a frame.
func began(comp, frame int) api.Part {
	return api.Part{Comp: comp, Values: begin[comp], Tick: frame}
}

// with is a part with a cell that is another one, changed in a frame.
func with(p api.Part, cell, value, frame int) api.Part {
	p.Values[cell], p.Tick = value, frame
	return p
}

func TestP14_2_TheExample(t *testing.T) {
	x := recorded(t, made(t, 3, 7))
	three := api.Part{Comp: pos, Values: [api.MaxWidth]int{3}}
	x.wantNotes("Spawn of pos 3", func() error { return only(x.Spawn(three)) },
		api.Undo{Kind: api.UndoNext, Old: 1}, api.Undo{Kind: api.UndoSpawn, ID: 1})
	x.wantNotes("Set pos to 5", func() error { return x.Set(1, pos, 0, 5) }, api.Undo{Kind: api.UndoCells, ID: 1, Part: three})
	x.wantParts("Set", 1, with(three, 0, 5, 0))
	x.wantUnnoted("Undo of UndoCells", func() error { return x.Undo(api.Undo{Kind: api.UndoCells, ID: 1, Part: three}) })
	x.wantParts("it is 3 again", 1, three)
	x.wantUnnoted("Undo of UndoSpawn", func() error { return x.Undo(api.Undo{Kind: api.UndoSpawn, ID: 1}) })
	wantGone(t, "nobody is there", x.World, 1)
}

func TestP14_2_Spawn(t *testing.T) {
	x := staged(t)
	for i, parts := range [][]api.Part{fulls(3, hue, pos, look), nil} {
		id := 0
		name := fmt.Sprint("Spawn ", parts)
		handed := slices.Clone(parts)
		x.wantNotes(name, func() (err error) { id, err = x.Spawn(handed...); return err },
			api.Undo{Kind: api.UndoNext, Old: 4 + i}, api.Undo{Kind: api.UndoSpawn, ID: 4 + i})
		if id != 4+i || !slices.Equal(handed, parts) {
			t.Errorf("%s: %d, %v is handed in now", name, id, handed)
		}
		x.wantParts(name, id, sorted(parts)...)
	}
	st := x.State()
	if st.Next != 6 || len(st.Beings) != 5 || !slices.Equal(st.Beings[3].Parts, fulls(3, pos)) || len(st.Beings[4].Parts) != 0 {
		t.Errorf("behind both: %+v", st)
	}
}

// sorted are parts by rising Comp.
func sorted(parts []api.Part) []api.Part {
	parts = slices.Clone(parts)
	slices.SortFunc(parts, func(a, b api.Part) int { return a.Comp - b.Comp })
	return parts
}

// TestP14_2_SpawnKeepsParts: a Tick may be any, it isn't made the frame.
func TestP14_2_SpawnKeepsParts(t *testing.T) {
	for _, n := range append(values, ends...) {
		x := staged(t)
		p, q := api.Part{Comp: pos, Values: [api.MaxWidth]int{n, n}, Tick: n}, part(look, n)
		x.wantParts(fmt.Sprint("parts of ", n), spawned(t, x.World, q, p), p, q)
	}
}

// TestP14_2_SpawnGivesNewNumbers: a place is used again, a number isn't.
func TestP14_2_SpawnGivesNewNumbers(t *testing.T) {
	x := staged(t)
	for n := range 200 {
		if n%3 == 0 {
			x.wantUnnoted("Undo that has nothing to do with numbers", func() error { return x.Undo(api.Undo{Kind: api.UndoSeed}) })
		}
		if id := spawned(t, x.World, part(hp, n)); id != 4+n {
			t.Fatalf("Spawn: %d, want %d", id, 4+n)
		}
		if err := x.Despawn(4 + n); err != nil {
			t.Fatal(err)
		}
	}
	if st := x.State(); st.Next != 204 || len(st.Beings) != 3 {
		t.Errorf("behind all: %+v", st)
	}
}

func TestP14_2_SpawnThatIsRefused(t *testing.T) {
	x := staged(t)
	for _, full := range []bool{false, true} {
		if full {
			spawned(t, x.World)
			spawned(t, x.World)
		}
		for _, p := range misfits() {
			x.wantRefused(fmt.Sprint("Spawn ", p), api.ErrArg, func() error { return none(x, p) })
			x.wantRefused(fmt.Sprint("Spawn behind others, twice, ", p), api.ErrArg, func() error {
				return none(x, part(look, 1), part(hp, 1), part(hp, 1), p)
			})
		}
		for comp := range comps {
			x.wantRefused(fmt.Sprint("Spawn twice ", comp), api.ErrTwice, func() error {
				return none(x, append(fulls(1, comp), fulls(2, pos, hp, look, vel, hue)...)...)
			})
		}
	}
	x.wantRefused("Spawn without a place", api.ErrFull, func() error { return none(x) })
	x.wantRefused("Spawn without a place, with parts", api.ErrFull, func() error { return none(x, fulls(1, pos, look)...) })
	if err := x.Despawn(2); err != nil {
		t.Fatal(err)
	}
	if id := spawned(t, x.World); id != 6 {
		t.Errorf("Spawn with a place again: %d, want 6", id)
	}
}

// none is the error of a Spawn; one with a number beside it is told as none.
func none(x *stage, parts ...api.Part) error {
	id, err := x.Spawn(parts...)
	if id != 0 && err != nil {
		return errors.New("a number beside the error")
	}
	return err
}

func TestP14_2_SpawnWithoutPlaces(t *testing.T) {
	x := recorded(t, made(t, 0, 1))
	x.wantRefused("Spawn", api.ErrFull, func() error { return none(x) })
	x.wantRefused("Spawn of what doesn't fit", api.ErrArg, func() error { return none(x, part(comps, 1)) })
	x.wantRefused("Spawn twice", api.ErrTwice, func() error { return none(x, part(hp, 1), part(hp, 2)) })
}

func TestP14_2_SpawnWithoutANumber(t *testing.T) {
	st := good()
	st.Next = last
	x := recorded(t, built(t, 5, st))
	id := 0
	x.wantNotes("Spawn of the last number", func() (err error) { id, err = x.Spawn(part(hp, 5)); return err },
		api.Undo{Kind: api.UndoNext, Old: last}, api.Undo{Kind: api.UndoSpawn, ID: last})
	if id != last || x.State().Next != last+1 {
		t.Errorf("Spawn: %d, Next %d", id, x.State().Next)
	}
	for range 3 {
		x.wantRefused("Spawn without a number", api.ErrFull, func() error { return none(x, fulls(1, pos, look)...) })
		x.wantRefused("Spawn twice, without a number", api.ErrTwice, func() error { return none(x, part(hp, 1), part(hp, 1)) })
		x.wantRefused("Spawn of what doesn't fit, without a number", api.ErrArg, func() error { return none(x, part(-1, 1)) })
	}
	if err := x.Despawn(last); err != nil {
		t.Fatal(err)
	}
	x.wantRefused("Spawn without a number, the last one being gone", api.ErrFull, func() error { return none(x) })
	for _, old := range []int{last, last - 1} {
		if err := x.Undo(api.Undo{Kind: api.UndoNext, Old: old}); err != nil {
			t.Fatal(err)
		}
	}
	for want := last - 1; want <= last; want++ {
		if id := spawned(t, x.World); id != want {
			t.Errorf("Spawn: %d, want %d", id, want)
		}
	}
	x.wantRefused("Spawn without a place or a number", api.ErrFull, func() error { return none(x) })
}

func TestP14_2_Despawn(t *testing.T) {
	x := staged(t)
	for _, c := range []struct {
		id    int
		parts []api.Part
	}{{2, fulls(2, pos, look)}, {1, fulls(1, pos, hp, look, vel, hue)}, {3, nil}} {
		name := fmt.Sprint("Despawn ", c.id)
		x.wantNotes(name, func() error { return x.Despawn(c.id) }, api.Undo{Kind: api.UndoDespawn, ID: c.id, Parts: c.parts})
		wantGone(t, name, x.World, c.id)
		x.wantRefused(name+" again", api.ErrDead, func() error { return x.Despawn(c.id) })
	}
	if st := x.State(); st.Next != 4 || len(st.Beings) != 0 || x.Count() != 0 {
		t.Errorf("behind all: %+v", st)
	}
	for _, id := range noIDs() {
		x.wantRefused(fmt.Sprint("Despawn ", id), api.ErrDead, func() error { return x.Despawn(id) })
	}
}

func TestP14_2_Insert(t *testing.T) {
	x := staged(t)
	for _, comp := range []int{vel, pos, hp} {
		name := fmt.Sprint("Insert 3, ", comp)
		x.wantNotes(name, func() error { return x.Insert(3, comp) },
			api.Undo{Kind: api.UndoInsert, ID: 3, Part: api.Part{Comp: comp}})
		x.wantRefused(name+" again", api.ErrTwice, func() error { return x.Insert(3, comp) })
	}
	x.wantParts("rolled back", 3, began(pos, 4), began(hp, 4), began(vel, 4))
	x.Tick()
	for _, comp := range []int{hue, look} {
		name := fmt.Sprint("Insert 3, ", comp)
		x.wantUnnoted(name, func() error { return x.Insert(3, comp) })
		x.wantRefused(name+" again", api.ErrTwice, func() error { return x.Insert(3, comp) })
	}
	x.wantParts("all", 3, began(pos, 4), began(hp, 4), began(look, 5), began(vel, 4), began(hue, 5))
	x.wantParts("another one", 2, fulls(2, pos, look)...)
}

func TestP14_2_InsertThatIsRefused(t *testing.T) {
	x := staged(t)
	for _, comp := range noComps() {
		x.wantRefused(fmt.Sprint("Insert of the component ", comp), api.ErrArg, func() error { return x.Insert(2, comp) })
	}
	for comp := range comps {
		x.wantRefused(fmt.Sprint("Insert twice of ", comp), api.ErrTwice, func() error { return x.Insert(1, comp) })
	}
	for _, id := range noIDs() {
		for _, comp := range []int{pos, look, comps, -1} {
			x.wantRefused(fmt.Sprint("Insert ", id, comp), api.ErrDead, func() error { return x.Insert(id, comp) })
		}
	}
}

func TestP14_2_Remove(t *testing.T) {
	x := staged(t)
	left := fulls(1, pos, hp, look, vel, hue)
	for _, comp := range []int{hp, look, vel, hue, pos} {
		name := fmt.Sprint("Remove 1, ", comp)
		want := []api.Undo{{Kind: api.UndoRemove, ID: 1, Part: full(comp, 1)}}
		if !rolls[comp] {
			want = nil
		}
		x.wantNotes(name, func() error { return x.Remove(1, comp) }, want...)
		left = slices.DeleteFunc(left, func(p api.Part) bool { return p.Comp == comp })
		x.wantParts(name, 1, left...)
		x.wantRefused(name+" again", api.ErrNone, func() error { return x.Remove(1, comp) })
	}
	x.wantParts("another one", 2, fulls(2, pos, look)...)
	if x.Count() != 3 {
		t.Errorf("Count %d: nobody is gone, even without parts", x.Count())
	}
}

func TestP14_2_RemoveThatIsRefused(t *testing.T) {
	x := staged(t)
	for _, comp := range noComps() {
		x.wantRefused(fmt.Sprint("Remove of the component ", comp), api.ErrNone, func() error { return x.Remove(1, comp) })
	}
	for _, comp := range []int{hp, vel, hue} {
		x.wantRefused(fmt.Sprint("Remove of ", comp), api.ErrNone, func() error { return x.Remove(2, comp) })
	}
	for _, id := range noIDs() {
		for _, comp := range []int{pos, look, comps, -1} {
			x.wantRefused(fmt.Sprint("Remove ", id, comp), api.ErrDead, func() error { return x.Remove(id, comp) })
		}
	}
}

func TestP14_2_Set(t *testing.T) {
	x := staged(t)
	is := map[int]api.Part{}
	for comp := range comps {
		is[comp] = full(comp, 1)
	}
	for _, value := range values {
		x.Tick()
		for comp, width := range widths {
			cell := value & 7 % width
			name := fmt.Sprint("Set 1, ", comp, cell, value)
			want := []api.Undo{{Kind: api.UndoCells, ID: 1, Part: is[comp]}}
			if !rolls[comp] {
				want = nil
			}
			x.wantNotes(name, func() error { return x.Set(1, comp, cell, value) }, want...)
			is[comp] = with(is[comp], cell, value, x.Frame())
			x.wantParts(name, 1, is[pos], is[hp], is[look], is[vel], is[hue])
		}
	}
	x.wantParts("another one", 2, fulls(2, pos, look)...)
}

// TestP14_2_SetOfWhatItIs: the same value is a change too, by its Tick, and noted.
func TestP14_2_SetOfWhatItIs(t *testing.T) {
	x := staged(t)
	p := full(pos, 2)
	x.wantNotes("Set of what it is", func() error { return x.Set(2, pos, 1, p.Values[1]) }, api.Undo{Kind: api.UndoCells, ID: 2, Part: p})
	x.wantNotes("and again", func() error { return x.Set(2, pos, 1, p.Values[1]) }, api.Undo{Kind: api.UndoCells, ID: 2, Part: at(p, 4)})
	x.wantParts("the same", 2, at(p, 4), full(look, 2))
}

func TestP14_2_SetThatIsRefused(t *testing.T) {
	x := staged(t)
	for comp, width := range widths {
		for _, cell := range append([]int{width, width + 1, 4, 5, 256}, ends...) {
			if cell < 0 || cell >= width {
				x.wantRefused(fmt.Sprint("Set of the cell ", comp, cell), api.ErrArg, func() error { return x.Set(1, comp, cell, 5) })
			}
		}
	}
	for _, cell := range []int{0, 1, 4, -1} {
		for _, comp := range append(noComps(), hp, vel, hue) {
			x.wantRefused(fmt.Sprint("Set of ", comp, cell), api.ErrNone, func() error { return x.Set(2, comp, cell, 5) })
		}
		for _, id := range noIDs() {
			for _, comp := range []int{pos, look, comps, -1} {
				x.wantRefused(fmt.Sprint("Set ", id, comp, cell), api.ErrDead, func() error { return x.Set(id, comp, cell, 5) })
			}
		}
	}
}

func TestP14_2_Assign(t *testing.T) {
	x := staged(t)
	is := []int{3, -1}
	for _, value := range append(values, 7, 7) {
		for i := range is {
			name := fmt.Sprint("Assign ", i, value)
			x.wantNotes(name, func() error { return x.Assign(i, value) }, api.Undo{Kind: api.UndoResource, N: i, Old: is[i]})
			is[i] = value
			if st := x.State(); !slices.Equal(st.Resources, is) {
				t.Errorf("%s: %v, want %v", name, st.Resources, is)
			}
		}
	}
	for _, i := range append([]int{2, 3, 7, 8, 256}, ends...) {
		x.wantRefused(fmt.Sprint("Assign ", i), api.ErrNone, func() error { return x.Assign(i, 1) })
	}
}

func TestP14_2_Draw(t *testing.T) {
	for _, seed := range append(values, ends...) {
		x := recorded(t, made(t, 1, seed))
		is := seed
		for _, below := range append([]int{0, 1, 2, 6, 7, 1000, math.MaxInt}, ends...) {
			name := fmt.Sprint("Draw ", below, " from ", is)
			behind, want := dice.Draw(is, below)
			got := 0
			x.wantNotes(name, func() (err error) { got, err = x.Draw(below); return err }, api.Undo{Kind: api.UndoSeed, Old: is})
			if got != want || x.State().Seed != behind {
				t.Errorf("%s: %d and the seed %d, want %d and %d", name, got, x.State().Seed, want, behind)
			}
			if below <= 1 && got != 0 {
				t.Errorf("%s: %d, want 0", name, got)
			}
			is = behind
		}
	}
	x := recorded(t, made(t, 1, 0))
	if n, err := x.Draw(6); n != 1 || err != nil || x.State().Seed != -7046029254386353131 {
		t.Errorf("layer 4's example: %d, %v, %d", n, err, x.State().Seed)
	}
}

func TestP14_2_Tick(t *testing.T) {
	x := staged(t)
	for frame := 4; frame < 9; frame++ {
		before := x.State()
		x.wantNotes("Tick", x.Tick, api.Undo{Kind: api.UndoFrame, Old: frame})
		before.Frame = frame + 1
		wantState(t, "Tick", x.World, before)
	}
	x.wantParts("a Tick changes no part", 1, fulls(1, pos, hp, look, vel, hue)...)
}

func TestP14_2_TickAtTheLastFrame(t *testing.T) {
	st := good()
	st.Frame = last - 1
	x := recorded(t, built(t, 3, st))
	x.wantNotes("Tick at the last frame but one", x.Tick, api.Undo{Kind: api.UndoFrame, Old: last - 1})
	st.Frame = last
	wantState(t, "the last frame", x.World, st)
	for range 3 {
		x.wantRefused("Tick at the last frame", api.ErrFull, x.Tick)
	}
	x.wantNotes("Set in the last frame", func() error { return x.Set(9, hp, 0, 1) }, api.Undo{Kind: api.UndoCells, ID: 9, Part: full(hp, 2)})
	x.wantParts("Set in the last frame", 9, with(full(hp, 2), 0, 1, last))
	if err := x.Undo(api.Undo{Kind: api.UndoFrame, Old: last - 1}); err != nil {
		t.Fatal(err)
	}
	x.wantNotes("Tick again", x.Tick, api.Undo{Kind: api.UndoFrame, Old: last - 1})
}

// TestP14_2_TheFirstComponentOnlyShown: what has no part of its own in an entry is noted whatever that one is.
func TestP14_2_TheFirstComponentOnlyShown(t *testing.T) {
	s := api.Schema{
		Components: []api.Component{{Name: "look", Width: 1}, {Name: "hp", Width: 1, Rollback: true}},
		Resources:  []api.Resource{{Name: "score"}},
	}
	w, err := world.New(s, 2, 0)
	if err != nil {
		t.Fatal(err)
	}
	x := recorded(t, w)
	x.wantNotes("Spawn", func() error { return only(x.Spawn(part(0, 1))) }, api.Undo{Kind: api.UndoNext, Old: 1}, api.Undo{Kind: api.UndoSpawn, ID: 1})
	x.wantUnnoted("Set", func() error { return x.Set(1, 0, 0, 5) })
	x.wantUnnoted("Remove", func() error { return x.Remove(1, 0) })
	x.wantUnnoted("Insert", func() error { return x.Insert(1, 0) })
	x.wantNotes("Insert", func() error { return x.Insert(1, 1) }, api.Undo{Kind: api.UndoInsert, ID: 1, Part: api.Part{Comp: 1}})
	x.wantNotes("Assign", func() error { return x.Assign(0, 5) }, api.Undo{Kind: api.UndoResource})
	x.wantNotes("Draw", func() error { return only(x.Draw(5)) }, api.Undo{Kind: api.UndoSeed})
	x.wantNotes("Tick", x.Tick, api.Undo{Kind: api.UndoFrame})
	x.wantNotes("Despawn", func() error { return x.Despawn(1) }, api.Undo{Kind: api.UndoDespawn, ID: 1, Parts: []api.Part{{Comp: 0}, {Comp: 1}}})
}

// many is one of each call that changes something.
func many(w *world.World) []error {
	return []error{
		w.Tick(), only(w.Spawn(fulls(4, pos, look)...)), w.Set(1, pos, 1, -8), w.Set(1, look, 0, 77), w.Insert(2, vel), w.Insert(2, hue),
		w.Remove(1, hp), w.Remove(2, look), w.Assign(1, 55), only(w.Draw(6)), w.Despawn(3), w.Set(4, pos, 0, 1),
	}
}

// manyNotes is what they note, in order. (Of the number 4 nothing but that it came is new.)
func manyNotes() []api.Undo {
	return []api.Undo{
		{Kind: api.UndoFrame, Old: 4}, {Kind: api.UndoNext, Old: 4}, {Kind: api.UndoSpawn, ID: 4},
		{Kind: api.UndoCells, ID: 1, Part: full(pos, 1)}, {Kind: api.UndoInsert, ID: 2, Part: api.Part{Comp: vel}},
		{Kind: api.UndoRemove, ID: 1, Part: full(hp, 1)}, {Kind: api.UndoResource, N: 1, Old: -1},
		{Kind: api.UndoSeed, Old: 77}, {Kind: api.UndoDespawn, ID: 3},
	}
}

// manyState is the state that they come to.
func manyState() api.State {
	seed, _ := dice.Draw(77, 6)
	return api.State{Frame: 5, Next: 5, Seed: seed, Resources: []int{3, 55}, Beings: []api.Being{
		being(1, with(full(pos, 1), 1, -8, 5), full(vel, 1)), being(2, full(pos, 2), began(vel, 5)),
		being(4, with(full(pos, 4), 0, 1, 5)),
	}}
}

func wantMany(t *testing.T, name string, w *world.World) {
	t.Helper()
	for i, err := range many(w) {
		if err != nil {
			t.Errorf("%s: the call %d: %v", name, i, err)
		}
	}
	wantState(t, name, w, manyState())
	wantParts(t, name, w, 1, with(full(pos, 1), 1, -8, 5), with(full(look, 1), 0, 77, 5), full(vel, 1), full(hue, 1))
	wantParts(t, name, w, 2, full(pos, 2), began(vel, 5), began(hue, 5))
	wantParts(t, name, w, 4, with(full(pos, 4), 0, 1, 5), full(look, 4))
}

func wantSince(t *testing.T, name string, x *stage, frame int, want ...api.Undo) {
	t.Helper()
	got, err := x.j.Since(frame)
	slices.Reverse(got)
	if err != nil || fmt.Sprint(got) != fmt.Sprint(want) {
		t.Errorf("%s: noted %+v, %v, want %+v", name, got, err, want)
	}
}

func TestP14_2_ARowOfCallsIsNoted(t *testing.T) {
	x := staged(t)
	wantMany(t, "noted", x.World)
	wantSince(t, "noted", x, 0, manyNotes()...)
}

func TestP14_2_WithoutAJournal(t *testing.T) {
	x := staged(t)
	x.Record(nil)
	wantMany(t, "Record of nil", x.World)
	wantSince(t, "Record of nil", x, 0)

	w := built(t, 5, staged(t).State())
	for i, err := range []error{w.Insert(1, look), w.Set(1, look, 0, 1), w.Insert(1, hue), w.Insert(2, look), w.Tick(), w.Tick()} {
		if err != nil {
			t.Error("a world that was never recorded: the call", i, err)
		}
	}
	if w.Frame() != 6 {
		t.Error("a world that was never recorded: the frame", w.Frame())
	}
}

// TestP14_2_FullJournals: what a journal can't take is a change all the same. (So many entries are noted as there is
// room for; of those behind, nothing.)
func TestP14_2_FullJournals(t *testing.T) {
	for most := 1; most <= len(manyNotes())+1; most++ {
		x := staged(t)
		x.j = marked(t, most)
		x.Record(x.j)
		name := fmt.Sprint("a journal of ", most)
		wantMany(t, name, x.World)
		wantSince(t, name, x, 0, manyNotes()[:min(most, len(manyNotes()))]...)
	}
}

func TestP14_2_AJournalWithoutAMark(t *testing.T) {
	x := staged(t)
	x.j = unmarked(t)
	x.Record(x.j)
	wantMany(t, "without a mark", x.World)
	if x.j.Len() != 0 || len(x.j.Marks()) != 0 {
		t.Errorf("without a mark: %s", toldOf(x.j))
	}
	if err := x.j.Mark(7); err != nil {
		t.Fatal(err)
	}
	x.Tick()
	wantSince(t, "with a mark", x, 7, api.Undo{Kind: api.UndoFrame, Old: 5})
}

func TestP14_2_RecordOfAnotherJournal(t *testing.T) {
	x := staged(t)
	first, second := x.j, marked(t, 100)
	x.Tick()
	x.Record(second)
	x.Assign(0, 9)
	x.Record(nil)
	x.Draw(6)
	x.Record(first)
	x.Despawn(2)
	x.Record(first)
	x.Despawn(3)
	wantSince(t, "the first one", x, 0, api.Undo{Kind: api.UndoFrame, Old: 4},
		api.Undo{Kind: api.UndoDespawn, ID: 2, Parts: fulls(2, pos, look)}, api.Undo{Kind: api.UndoDespawn, ID: 3})
	x.j = second
	wantSince(t, "the second one", x, 0, api.Undo{Kind: api.UndoResource, N: 0, Old: 3})
}

// TestP14_2_TwoWorldsInOneJournal: what both note stands there as it came.
func TestP14_2_TwoWorldsInOneJournal(t *testing.T) {
	x := staged(t)
	other := made(t, 1, 5)
	other.Record(x.j)
	x.Despawn(3)
	other.Draw(2)
	other.Tick()
	x.Draw(2)
	x.Despawn(2)
	wantSince(t, "both", x, 0, api.Undo{Kind: api.UndoDespawn, ID: 3}, api.Undo{Kind: api.UndoSeed, Old: 5},
		api.Undo{Kind: api.UndoFrame, Old: 0}, api.Undo{Kind: api.UndoDespawn, ID: 2, Parts: fulls(2, pos, look)})
}
