package orders_test

import (
	"fmt"
	"slices"
	"testing"

	"pasodoble/api"
	"pasodoble/journal"
	"pasodoble/orders"
	"pasodoble/schema"
	"pasodoble/world"
)

// stage is commands and the world that they are done to.
type stage struct {
	*testing.T
	*world.World
	o *orders.Orders
}

// staged is commands over a world of at most five entities in the frame 4: 1 has all components, 2 has pos and look,
// 3 has none.
func staged(t *testing.T) *stage {
	t.Helper()
	x := &stage{t, fresh(t, five(), 5), made(t, five(), api.MaxOrders)}
	for _, has := range [][]int{{pos, hp, look, vel, hue}, {pos, look}, nil} {
		if _, err := x.Spawn(other(has...)...); err != nil {
			t.Fatal(err)
		}
	}
	x.tick(4)
	return x
}

func fresh(t *testing.T, s api.Schema, most int) *world.World {
	t.Helper()
	w, err := world.New(s, most, 1)
	if err != nil {
		t.Fatal(err)
	}
	return w
}

func (x *stage) tick(frames int) {
	for range frames {
		x.Tick()
	}
}

// began are parts of these components, as they begin in a frame.
func began(frame int, comps ...int) []api.Part {
	var list []api.Part
	for _, comp := range comps {
		list = append(list, api.Part{Comp: comp, Values: begin[comp], Tick: frame})
	}
	return list
}

// other are parts of these components that aren't as they begin: their first cell is 70.
func other(comps ...int) []api.Part {
	list := began(-1, comps...)
	for i := range list {
		list[i].Values[0] = 70
	}
	return list
}

// wantFlush adds commands, and asks what comes of each of them: true, if it is done.
func (x *stage) wantFlush(name string, commands []api.Order, done ...bool) {
	x.Helper()
	x.o.Turn()
	add(x.T, x.o, commands...)
	var want orders.Report
	for _, ok := range done {
		if ok {
			want.Done++
		} else {
			want.Failed++
		}
	}
	if r, err := x.o.Flush(x.World); err != nil || r != want {
		x.Errorf("%s: Flush %+v, %v, want %+v", name, r, err, want)
	}
	wantTold(x.T, name, x.o, len(commands), 0)
}

// wantThere asks who is there, with all parts, by rising numbers, and which number comes next.
func (x *stage) wantThere(name string, next int, want ...api.Being) {
	x.Helper()
	if got := x.View(); fmt.Sprint(got) != fmt.Sprint(want) {
		x.Errorf("%s: there is %v, want %v", name, got, want)
	}
	if got := x.State().Next; got != next {
		x.Errorf("%s: the next number is %d, want %d", name, got, next)
	}
}

func being(id int, parts ...api.Part) api.Being { return api.Being{ID: id, Parts: parts} }

// first, second, third are who is there at first.
var (
	first  = being(1, other(pos, hp, look, vel, hue)...)
	second = being(2, other(pos, look)...)
	third  = being(3)
)

// list is commands, for calls that take what comes of them behind.
func list(commands ...api.Order) []api.Order { return commands }

func TestP15_2_TheExample(t *testing.T) {
	x := &stage{t, fresh(t, five(), 2), made(t, five(), 3)}
	if id, err := x.Spawn(); id != 1 || err != nil {
		t.Fatal(id, err)
	}
	add(t, x.o, spawn(), despawn(1), despawn(1))
	if r, err := x.o.Flush(x.World); err != nil || r != (orders.Report{Done: 2, Failed: 1}) {
		t.Errorf("Flush: %+v, %v", r, err)
	}
	x.wantThere("behind it", 3, being(2))
}

func TestP15_2_WithoutWhatWaits(t *testing.T) {
	for _, most := range []int{0, 1, api.MaxOrders} {
		x := staged(t)
		x.o = made(t, five(), most)
		for range 3 {
			x.wantFlush("nothing", nil)
			x.wantThere("nothing", 4, first, second, third)
		}
		for _, wrong := range wrongs() {
			wants(t, "Add", x.o.Add(wrong), api.ErrArg)
		}
		x.wantFlush("only what can't be", nil)
		x.wantThere("only what can't be", 4, first, second, third)
	}
}

// TestP15_2_WhatIsDroppedIsNotDone, neither at once nor when there is room again.
func TestP15_2_WhatIsDroppedIsNotDone(t *testing.T) {
	x := staged(t)
	x.o = made(t, five(), 1)
	add(t, x.o, despawn(3))
	wants(t, "Add", x.o.Add(despawn(2)), api.ErrFull)
	for i, want := range []orders.Report{{Done: 1}, {}, {}} {
		if r, err := x.o.Flush(x.World); err != nil || r != want {
			t.Errorf("Flush %d: %+v, %v, want %+v", i, r, err, want)
		}
		x.wantThere("the first alone", 4, first, second)
		if i == 1 {
			x.o.Turn()
		}
	}
	wantTold(t, "the first alone", x.o, 0, 1)
}

// TestP15_2_Spawn asks each set of components, in a frame of its own each.
func TestP15_2_Spawn(t *testing.T) {
	x := &stage{t, fresh(t, five(), 32), made(t, five(), api.MaxOrders)}
	var want []api.Being
	for m := range api.Mask(1 << comps) {
		x.tick(1)
		name := fmt.Sprintf("Spawn of the set %b", m)
		x.wantFlush(name, list(api.Order{Kind: api.OrderSpawn, Mask: m}), true)
		want = append(want, being(len(want)+1, began(int(m)+1, schema.List(m)...)...))
		x.wantThere(name, len(want)+1, want...)
	}
}

// TestP15_2_SpawnIsOfTheFrameOfFlush, whatever the frame was when the command was added.
func TestP15_2_SpawnIsOfTheFrameOfFlush(t *testing.T) {
	x := staged(t)
	add(t, x.o, spawn(pos, look))
	x.tick(3)
	add(t, x.o, insert(3, hue))
	x.tick(2)
	if r, err := x.o.Flush(x.World); err != nil || r != (orders.Report{Done: 2}) {
		t.Errorf("Flush: %+v, %v", r, err)
	}
	x.wantThere("of the frame 9", 5, first, second, being(3, began(9, hue)...), being(4, began(9, pos, look)...))
}

// TestP15_2_SpawnOfAsManyAsCanBe: a schema with all components, the last one among them.
func TestP15_2_SpawnOfAsManyAsCanBe(t *testing.T) {
	s := of(api.MaxComponents)
	var parts []api.Part
	for comp := range s.Components {
		s.Components[comp].Default[0] = 100 + comp
		parts = append(parts, api.Part{Comp: comp, Values: [api.MaxWidth]int{100 + comp}})
	}
	x := &stage{t, fresh(t, s, 5), made(t, s, api.MaxOrders)}
	x.wantFlush("all, and the last one", list(
		api.Order{Kind: api.OrderSpawn, Mask: 1<<api.MaxComponents - 1}, spawn(15), insert(2, 14), remove(1, 15),
	), true, true, true, true)
	x.wantThere("all, and the last one", 3, being(1, parts[:15]...), being(2, parts[14:]...))
}

func TestP15_2_AFullWorld(t *testing.T) {
	x := staged(t)
	x.wantFlush("two places", list(spawn(hp), spawn(), spawn(pos), spawn(), despawn(3), spawn(hue), spawn(look)),
		true, true, false, false, true, true, false)
	x.wantThere("two places", 7, first, second, being(4, began(4, hp)...), being(5), being(6, began(4, hue)...))
	x.wantFlush("no place", list(spawn(), insert(5, look), spawn(pos)), false, true, false)
	x.wantThere("no place", 7, first, second, being(4, began(4, hp)...), being(5, began(4, look)...), being(6, began(4, hue)...))
	without := &stage{t, fresh(t, five(), 0), made(t, five(), api.MaxOrders)}
	without.wantFlush("never a place", list(spawn(), spawn(pos), despawn(1)), false, false, false)
	without.wantThere("never a place", 1)
}

// TestP15_2_AsManyAsCanBe: all places of the greatest world, by all commands of a frame.
func TestP15_2_AsManyAsCanBe(t *testing.T) {
	x := &stage{t, fresh(t, five(), api.MaxEntities), made(t, five(), api.MaxOrders)}
	var commands []api.Order
	var want []api.Being
	for id := 1; id <= api.MaxOrders; id++ {
		commands = append(commands, spawn(id%comps))
		want = append(want, being(id, began(0, id%comps)...))
	}
	x.wantFlush("all places", commands, slices.Repeat([]bool{true}, api.MaxOrders)...)
	x.wantThere("all places", api.MaxOrders+1, want...)
	x.wantFlush("no place left", commands, slices.Repeat([]bool{false}, api.MaxOrders)...)
	x.wantThere("no place left", api.MaxOrders+1, want...)
}

func TestP15_2_Despawn(t *testing.T) {
	x := staged(t)
	x.wantFlush("one", list(despawn(2)), true)
	x.wantThere("one", 4, first, third)
	x.wantFlush("again, and another one", list(despawn(2), despawn(3)), false, true)
	x.wantThere("again, and another one", 4, first)
	for _, id := range append([]int{0, 2, 3, 4, 5, api.MaxEntities}, ends...) {
		x.wantFlush(fmt.Sprint("nobody is ", id), list(despawn(id)), false)
	}
	x.wantThere("nobody", 4, first)
	x.wantFlush("the last one", list(despawn(1)), true)
	x.wantThere("the last one", 4)
}

func TestP15_2_Insert(t *testing.T) {
	for comp := range comps {
		x := staged(t)
		name := fmt.Sprint("Insert of ", comp)
		x.wantFlush(name, list(insert(3, comp)), true)
		x.wantThere(name, 4, first, second, being(3, began(4, comp)...))
		x.tick(1)
		x.wantFlush(name+" again", list(insert(3, comp), insert(1, comp)), false, false)
		x.wantThere(name+" again", 4, first, second, being(3, began(4, comp)...))
	}
	x := staged(t)
	for _, id := range append([]int{0, 4, 5, api.MaxEntities}, ends...) {
		x.wantFlush(fmt.Sprint("nobody is ", id), list(insert(id, hp)), false)
	}
	x.wantThere("nobody", 4, first, second, third)
	x.wantFlush("two more", list(insert(2, hue), insert(2, hp)), true, true)
	both := append(slices.Clone(second.Parts), began(4, hp, hue)...)
	slices.SortFunc(both, func(a, b api.Part) int { return a.Comp - b.Comp })
	x.wantThere("two more", 4, first, being(2, both...), third)
}

func TestP15_2_Remove(t *testing.T) {
	for comp := range comps {
		x := staged(t)
		name := fmt.Sprint("Remove of ", comp)
		left := being(1, slices.Delete(slices.Clone(first.Parts), comp, comp+1)...)
		x.wantFlush(name, list(remove(1, comp)), true)
		x.wantThere(name, 4, left, second, third)
		x.wantFlush(name+" again", list(remove(1, comp), remove(3, comp)), false, false)
		x.wantThere(name+" again", 4, left, second, third)
	}
	x := staged(t)
	for _, id := range append([]int{0, 4, 5, api.MaxEntities}, ends...) {
		x.wantFlush(fmt.Sprint("nobody is ", id), list(remove(id, pos)), false)
	}
	x.wantThere("nobody", 4, first, second, third)
	x.wantFlush("all", list(remove(2, look), remove(2, hp), remove(2, pos)), true, false, true)
	x.wantThere("all", 4, first, being(2), third)
}

// TestP15_2_OneBehindTheOther: what a command does is there for those behind it, and not for those ahead of it.
func TestP15_2_OneBehindTheOther(t *testing.T) {
	for _, c := range []struct {
		name     string
		commands []api.Order
		done     []bool
		next     int
		there    []api.Being
	}{
		{
			"what is spawned is there", list(spawn(hp), insert(4, pos), remove(4, hp), insert(4, look)),
			[]bool{true, true, true, true}, 5, []api.Being{first, second, third, being(4, began(4, pos, look)...)},
		},
		{
			"it isn't, ahead of that", list(insert(4, pos), remove(4, hp), despawn(4), spawn(hp)),
			[]bool{false, false, false, true}, 5, []api.Being{first, second, third, being(4, began(4, hp)...)},
		},
		{
			"it is gone again", list(spawn(pos), despawn(4), insert(4, hp), spawn(look), despawn(4), despawn(5)),
			[]bool{true, true, false, true, false, true}, 6, []api.Being{first, second, third},
		},
		{
			"who is gone gets nothing", list(despawn(1), insert(1, hp), remove(1, pos), despawn(1)),
			[]bool{true, false, false, false}, 4, []api.Being{second, third},
		},
		{
			"who isn't yet gone does", list(remove(1, pos), insert(1, pos), despawn(1)),
			[]bool{true, true, true}, 4, []api.Being{second, third},
		},
		{
			"what is removed can be inserted", list(remove(2, pos), insert(2, pos)),
			[]bool{true, true}, 4, []api.Being{first, being(2, began(4, pos)[0], second.Parts[1]), third},
		},
		{
			"what is there can't, and is removed then", list(insert(2, pos), remove(2, pos)),
			[]bool{false, true}, 4, []api.Being{first, being(2, second.Parts[1]), third},
		},
		{
			"twice each", list(insert(3, vel), insert(3, vel), remove(3, vel), remove(3, vel), insert(3, hue)),
			[]bool{true, false, true, false, true}, 4, []api.Being{first, second, being(3, began(4, hue)...)},
		},
		{
			"room is made", list(spawn(), spawn(), spawn(), despawn(2), spawn(vel)),
			[]bool{true, true, false, true, true}, 7, []api.Being{first, third, being(4), being(5), being(6, began(4, vel)...)},
		},
	} {
		x := staged(t)
		x.wantFlush(c.name, c.commands, c.done...)
		x.wantThere(c.name, c.next, c.there...)
	}
}

// TestP15_2_WhatFailsEndsNothing: each command that fails, alone and in between, leaves those behind it as they were.
func TestP15_2_WhatFailsEndsNothing(t *testing.T) {
	for _, fails := range []api.Order{despawn(9), insert(9, pos), insert(1, pos), remove(9, pos), remove(3, pos)} {
		x := staged(t)
		name := fmt.Sprintf("%+v", fails)
		x.wantFlush(name, list(fails, spawn(), fails, insert(3, hp), fails, fails, remove(2, look), fails, despawn(4), fails),
			false, true, false, true, false, false, true, false, true, false)
		x.wantThere(name, 5, first, being(2, second.Parts[0]), being(3, began(4, hp)...))
	}
}

// TestP15_2_NothingWaitsBehindIt: another Flush does nothing, and Flush makes no room for others.
func TestP15_2_NothingWaitsBehindIt(t *testing.T) {
	x := staged(t)
	x.o = made(t, five(), 4)
	add(t, x.o, spawn(pos), despawn(9), insert(3, hp))
	for i, want := range []orders.Report{{Done: 2, Failed: 1}, {}, {}} {
		if r, err := x.o.Flush(x.World); err != nil || r != want {
			t.Errorf("Flush %d: %+v, %v, want %+v", i, r, err, want)
		}
		wantTold(t, "behind Flush", x.o, 3, 0)
		x.wantThere("once", 5, first, second, being(3, began(4, hp)...), being(4, began(4, pos)...))
	}
	add(t, x.o, remove(3, hp))
	wantRefused(t, x.o, spawn(), api.ErrFull)
	wantTold(t, "the fourth", x.o, 4, 1, remove(3, hp))
	if r, err := x.o.Flush(x.World); err != nil || r != (orders.Report{Done: 1}) {
		t.Errorf("Flush: %+v, %v", r, err)
	}
	wantTold(t, "all are given", x.o, 4, 1)
	wantRefused(t, x.o, spawn(), api.ErrFull)
	x.wantThere("all are given", 5, first, second, third, being(4, began(4, pos)...))
}

// TestP15_2_WhatWaitsBehindTurnIsDone, with what was added behind it, in order.
func TestP15_2_WhatWaitsBehindTurnIsDone(t *testing.T) {
	x := staged(t)
	x.o = made(t, five(), 2)
	add(t, x.o, spawn(hp), despawn(2))
	x.o.Turn()
	add(t, x.o, insert(4, pos), despawn(2))
	x.o.Turn()
	if r, err := x.o.Flush(x.World); err != nil || r != (orders.Report{Done: 3, Failed: 1}) {
		t.Errorf("Flush: %+v, %v", r, err)
	}
	x.wantThere("all", 5, first, third, being(4, began(4, pos, hp)...))
	wantTold(t, "all", x.o, 0, 0)
}

// TestP15_2_NilWorld: nothing is done, what waits goes on waiting, and is done by the next Flush.
func TestP15_2_NilWorld(t *testing.T) {
	x := staged(t)
	waiting := list(spawn(hp), despawn(2), despawn(2), insert(4, look))
	add(t, x.o, waiting...)
	for range 3 {
		r, err := x.o.Flush(nil)
		wants(t, "Flush", err, api.ErrNil)
		if r != (orders.Report{}) {
			t.Errorf("Flush: %+v beside the error", r)
		}
		wantTold(t, "no world", x.o, 4, 0, waiting...)
	}
	if r, err := x.o.Flush(x.World); err != nil || r != (orders.Report{Done: 3, Failed: 1}) {
		t.Errorf("Flush: %+v, %v", r, err)
	}
	x.wantThere("a world", 5, first, third, being(4, began(4, hp, look)...))
	_, err := made(t, five(), 0).Flush(nil)
	wants(t, "Flush of nothing", err, api.ErrNil)
}

// TestP15_2_AnotherWorld: commands are done to the world that is handed in, each time another one.
func TestP15_2_AnotherWorld(t *testing.T) {
	a, b := staged(t), staged(t)
	b.o = a.o
	a.wantFlush("one", list(spawn(pos)), true)
	b.wantFlush("the other one", list(despawn(1), insert(4, hp)), true, false)
	a.wantThere("one", 5, first, second, third, being(4, began(4, pos)...))
	b.wantThere("the other one", 4, second, third)
}

// TestP15_2_AWorldOfAnotherSchema: what it refuses has failed. Who is spawned begins as the commands' schema says, what
// is inserted as the world's.
func TestP15_2_AWorldOfAnotherSchema(t *testing.T) {
	s := api.Schema{Components: []api.Component{
		{Name: "near", Width: 2, Rollback: true, Default: [api.MaxWidth]int{1, 2}},
		{Name: "far", Width: 2, Rollback: true, Default: [api.MaxWidth]int{3, 4}},
	}}
	x := &stage{t, fresh(t, s, 9), made(t, five(), api.MaxOrders)}
	x.wantFlush("what it hasn't", list(spawn(look), spawn(pos, hue), spawn(), insert(1, vel), remove(1, vel), spawn(pos, hp), insert(1, pos)),
		false, false, true, false, false, true, true)
	near := api.Part{Comp: pos, Values: [api.MaxWidth]int{1, 2}}
	x.wantThere("what it has", 3, being(1, near), being(2, began(0, pos, hp)...))
	one := &stage{t, fresh(t, of(1), 9), made(t, five(), api.MaxOrders)}
	one.wantFlush("too wide", list(spawn(pos), spawn()), false, true)
	one.wantThere("too wide", 2, being(1))
}

// TestP15_2_TheWorldNotes: what is done is noted as the world's own calls are, so that it can be taken back.
func TestP15_2_TheWorldNotes(t *testing.T) {
	x := staged(t)
	was := x.State()
	j, err := journal.New(100)
	if err != nil {
		t.Fatal(err)
	}
	j.Mark(4)
	x.Record(j)
	x.wantFlush("all kinds", list(spawn(hp), despawn(1), remove(2, pos), insert(3, vel), insert(3, vel), despawn(1)),
		true, true, true, true, false, false)
	want := []api.Undo{
		{Kind: api.UndoInsert, ID: 3, Part: api.Part{Comp: vel}}, {Kind: api.UndoRemove, ID: 2, Part: second.Parts[0]},
		{Kind: api.UndoDespawn, ID: 1, Parts: first.Parts}, {Kind: api.UndoSpawn, ID: 4}, {Kind: api.UndoNext, Old: 4},
	}
	got, err := j.Back(4)
	if err != nil || !slices.EqualFunc(got, want, journal.Same) {
		t.Fatalf("noted is %+v, %v, want %+v", got, err, want)
	}
	for _, u := range got {
		if err := x.Undo(u); err != nil {
			t.Errorf("Undo %+v: %v", u, err)
		}
	}
	if !world.Same(x.State(), was) {
		t.Errorf("back again: %+v, want %+v", x.State(), was)
	}
}

// TestP15_2_OnlyWhatTheCommandNames: of fields that a kind has nothing to do with nothing comes.
func TestP15_2_OnlyWhatTheCommandNames(t *testing.T) {
	x := staged(t)
	x.wantFlush("fields beside", list(
		api.Order{Kind: api.OrderSpawn, ID: 1, Mask: 1 << hp, Comp: pos},
		api.Order{Kind: api.OrderDespawn, ID: 2, Mask: 1, Comp: hp},
		api.Order{Kind: api.OrderInsert, ID: 3, Mask: 1 << hue, Comp: look},
		api.Order{Kind: api.OrderRemove, ID: 1, Mask: 1 << hue, Comp: pos},
	), true, true, true, true)
	x.wantThere("fields beside", 5, being(1, first.Parts[1:]...), being(3, began(4, look)...), being(4, began(4, hp)...))
}
