package orders_test

import (
	"errors"
	"fmt"
	"math"
	"slices"
	"testing"

	"pasodoble/api"
	"pasodoble/blame"
	"pasodoble/orders"
	"pasodoble/world"
)

// ends are numbers at both ends of 64 bits and of 32 bits, and some that wrap round to a small one.
var ends = []int{
	math.MinInt, math.MinInt + 1, -1 << 32, -1<<32 + 1, math.MinInt32, -65, -64, -2, -1,
	1<<31 - 1, 1 << 31, 1<<32 - 1, 1 << 32, 1<<32 + 1, 1<<32 + 2, math.MaxInt - 1, math.MaxInt,
}

// The components of most tests' schema, by their numbers.
const (
	pos = iota
	hp
	look // only shown
	vel
	hue // only shown
	comps
)

// begin is how each component begins, one of them with nothing but 0.
var begin = [comps][api.MaxWidth]int{{5, 6}, {9}, {}, {1, 2, 3, 4}, {0, 8, 0}}

// five is a schema that can be, with these components.
func five() api.Schema {
	component := func(comp int, name string, width int, rolls bool) api.Component {
		return api.Component{Name: name, Width: width, Rollback: rolls, Default: begin[comp]}
	}
	return api.Schema{
		Components: []api.Component{
			component(pos, "pos", 2, true), component(hp, "hp", 1, true), component(look, "look", 1, false),
			component(vel, "vel", 4, true), component(hue, "hue", 3, false),
		},
		Resources: []api.Resource{{Name: "score", Value: 3}},
	}
}

// of is a schema of so many components, rolled back and only shown by turns.
func of(many int) api.Schema {
	var s api.Schema
	for i := range many {
		s.Components = append(s.Components, api.Component{Name: "comp" + string(rune('a'+i)), Width: 1, Rollback: i%2 == 0})
	}
	return s
}

// The commands, told by what they are about.

func spawn(comps ...int) api.Order {
	x := api.Order{Kind: api.OrderSpawn}
	for _, comp := range comps {
		x.Mask |= 1 << comp
	}
	return x
}

func despawn(id int) api.Order { return api.Order{Kind: api.OrderDespawn, ID: id} }

func insert(id, comp int) api.Order { return api.Order{Kind: api.OrderInsert, ID: id, Comp: comp} }

func remove(id, comp int) api.Order { return api.Order{Kind: api.OrderRemove, ID: id, Comp: comp} }

// made is commands of a schema that can be.
func made(t *testing.T, s api.Schema, most int) *orders.Orders {
	t.Helper()
	o, err := orders.New(s, most)
	if err != nil || o == nil {
		t.Fatalf("New %+v, %d: %v, %v", s, most, o, err)
	}
	return o
}

// add adds commands, each of which is to be taken.
func add(t *testing.T, o *orders.Orders, list ...api.Order) {
	t.Helper()
	for i, x := range list {
		if err := o.Add(x); err != nil {
			t.Fatalf("Add %+v, the one %d: %v", x, i, err)
		}
	}
}

// wants asks that this one of the named errors is told, and no other one.
func wants(t *testing.T, name string, err, want error) {
	t.Helper()
	leaves := blame.Leaves(err)
	for _, leaf := range leaves {
		if leaf.Number != blame.Number(want) {
			t.Errorf("%s: %v, want %v alone", name, leaves, want)
		}
	}
	if !errors.Is(err, want) {
		t.Errorf("%s: %v %v, want %v", name, err, leaves, want)
	}
}

// wantTold asks each call that only tells.
func wantTold(t *testing.T, name string, o *orders.Orders, given, dropped int, list ...api.Order) {
	t.Helper()
	if got := o.List(); !slices.Equal(got, list) {
		t.Errorf("%s: List %+v, want %+v", name, got, list)
	}
	if got := o.Given(); got != given {
		t.Errorf("%s: Given %d, want %d", name, got, given)
	}
	if got := o.Dropped(); got != dropped {
		t.Errorf("%s: Dropped %d, want %d", name, got, dropped)
	}
}

// wantRefused asks that Add answers just this error, and that nothing is told otherwise then, but for what is dropped.
func wantRefused(t *testing.T, o *orders.Orders, x api.Order, want error) {
	t.Helper()
	name := fmt.Sprintf("Add %+v", x)
	given, dropped, list := o.Given(), o.Dropped(), o.List()
	wants(t, name, o.Add(x), want)
	if want == api.ErrFull {
		dropped++
	}
	wantTold(t, name, o, given, dropped, list...)
}

// wantAdded asks that a command is taken, and waits behind the others just as it was handed in.
func wantAdded(t *testing.T, o *orders.Orders, x api.Order) {
	t.Helper()
	name := fmt.Sprintf("Add %+v", x)
	given, dropped, list := o.Given(), o.Dropped(), o.List()
	if err := o.Add(x); err != nil {
		t.Errorf("%s: %v", name, err)
	}
	wantTold(t, name, o, given+1, dropped, append(list, x)...)
}

// TestP15_1_NewOfASchemaThatCannotBe: Check's errors are told as they are, and of most nothing then.
func TestP15_1_NewOfASchemaThatCannotBe(t *testing.T) {
	leaf := func(path string, number int) blame.Leaf { return blame.Leaf{Path: path, Number: number} }
	twice, wide, named, behind := five(), five(), five(), five()
	twice.Components[1].Name = "pos"
	wide.Components[0].Width = 5
	named.Resources[0].Name = "X"
	behind.Components[1].Default[1] = 1
	both := of(api.MaxComponents + 1)
	both.Resources = []api.Resource{{Name: "compa"}}
	for _, c := range []struct {
		s      api.Schema
		leaves []blame.Leaf
	}{
		{twice, []blame.Leaf{leaf("components/1/name", 9)}},
		{wide, []blame.Leaf{leaf("components/0/width", 1)}},
		{behind, []blame.Leaf{leaf("components/1/default", 1)}},
		{named, []blame.Leaf{leaf("resources/0/name", 10)}},
		{both, []blame.Leaf{leaf("components", 4), leaf("resources/0/name", 9)}},
	} {
		for _, most := range []int{0, 5, api.MaxOrders, -1, api.MaxOrders + 1, math.MinInt, math.MaxInt} {
			o, err := orders.New(c.s, most)
			if o != nil {
				t.Errorf("%v: New with %d: commands beside the error", c.leaves, most)
			}
			if got := blame.Leaves(err); !slices.Equal(got, c.leaves) {
				t.Errorf("New with %d: %v, want %v", most, got, c.leaves)
			}
		}
	}
}

func TestP15_1_NewOfMost(t *testing.T) {
	for _, s := range []api.Schema{{}, five(), of(api.MaxComponents)} {
		for most := -3; most <= api.MaxOrders+3; most++ {
			if most >= 0 && most <= api.MaxOrders {
				wantTold(t, fmt.Sprint("New with ", most), made(t, s, most), 0, 0)
			} else {
				wantNoOrders(t, s, most)
			}
		}
		for _, most := range ends {
			wantNoOrders(t, s, most)
		}
	}
}

func wantNoOrders(t *testing.T, s api.Schema, most int) {
	t.Helper()
	o, err := orders.New(s, most)
	wants(t, fmt.Sprint("New with ", most), err, api.ErrArg)
	if o != nil {
		t.Errorf("New with %d: commands beside the error", most)
	}
}

func TestP15_1_AddOfEachKind(t *testing.T) {
	o := made(t, five(), api.MaxOrders)
	for _, x := range []api.Order{spawn(pos, hue), despawn(1), insert(1, hp), remove(1, look)} {
		wantAdded(t, o, x)
	}
	for _, kind := range append([]int{0, 5, 6, 255, 256, 257, 1<<32 + 3, 1<<32 + 4}, ends...) {
		for _, x := range []api.Order{{}, {ID: 1}, {Mask: 1}, {Comp: 1}, {ID: 2, Mask: 3, Comp: 4}} {
			x.Kind = kind
			wantRefused(t, o, x, api.ErrArg)
		}
	}
}

// TestP15_1_AddOfMasks asks each single number, alone and beside numbers of components.
func TestP15_1_AddOfMasks(t *testing.T) {
	for many := range api.MaxComponents + 1 {
		o := made(t, of(many), api.MaxOrders)
		wantAdded(t, o, spawn())
		all := api.Mask(1<<many - 1)
		wantAdded(t, o, api.Order{Kind: api.OrderSpawn, Mask: all})
		for number := range 32 {
			one := api.Mask(1) << number
			if number < many {
				wantAdded(t, o, spawn(number))
				wantAdded(t, o, api.Order{Kind: api.OrderSpawn, Mask: all &^ one})
				continue
			}
			wantRefused(t, o, spawn(number), api.ErrArg)
			wantRefused(t, o, api.Order{Kind: api.OrderSpawn, Mask: all | one}, api.ErrArg)
		}
		wantRefused(t, o, api.Order{Kind: api.OrderSpawn, Mask: ^api.Mask(0)}, api.ErrArg)
		wantRefused(t, o, api.Order{Kind: api.OrderSpawn, Mask: ^all}, api.ErrArg)
	}
}

func TestP15_1_AddOfComps(t *testing.T) {
	for _, kind := range []int{api.OrderInsert, api.OrderRemove} {
		for many := range api.MaxComponents + 1 {
			o := made(t, of(many), api.MaxOrders)
			for comp := range many {
				wantAdded(t, o, api.Order{Kind: kind, ID: 1, Comp: comp})
			}
			for _, comp := range append([]int{many, many + 1, 16, 31, 32, 33, 63, 64, 128}, ends...) {
				wantRefused(t, o, api.Order{Kind: kind, ID: 1, Comp: comp}, api.ErrArg)
			}
		}
	}
}

// TestP15_1_AddOfAnyID: somebody needn't be there when a command is added.
func TestP15_1_AddOfAnyID(t *testing.T) {
	for _, x := range []api.Order{spawn(pos), despawn(0), insert(0, pos), remove(0, hue)} {
		o := made(t, five(), api.MaxOrders)
		for _, x.ID = range append([]int{0, 1, 2, api.MaxEntities, api.MaxFrame, api.MaxFrame + 1}, ends...) {
			wantAdded(t, o, x)
		}
	}
}

// TestP15_1_AddAsksOnlyWhatTheKindNames: what a kind has nothing to do with may hold anything, and stays as it was.
func TestP15_1_AddAsksOnlyWhatTheKindNames(t *testing.T) {
	for _, n := range append([]int{0, comps, comps + 1, 31, 32}, ends...) {
		o := made(t, five(), api.MaxOrders)
		wantAdded(t, o, api.Order{Kind: api.OrderSpawn, ID: n, Mask: 3, Comp: n})
		wantAdded(t, o, api.Order{Kind: api.OrderDespawn, ID: 1, Mask: api.Mask(n), Comp: n})
		wantAdded(t, o, api.Order{Kind: api.OrderInsert, ID: 1, Mask: api.Mask(n), Comp: hue})
		wantAdded(t, o, api.Order{Kind: api.OrderRemove, ID: 1, Mask: api.Mask(n), Comp: pos})
	}
}

// wrongs are commands that can't be, of each way to be wrong.
func wrongs() []api.Order {
	return []api.Order{
		{}, {Kind: -1}, {Kind: 5}, {Kind: math.MaxInt}, spawn(comps), spawn(pos, 31),
		insert(1, -1), insert(1, comps), remove(1, -1), remove(1, comps),
	}
}

// TestP15_1_ErrArgComesFirst: a command that can't be is refused as such, also where there is no room for it.
func TestP15_1_ErrArgComesFirst(t *testing.T) {
	for _, most := range []int{0, 1, 3, api.MaxOrders} {
		o := made(t, five(), most)
		for n := range most {
			for _, x := range wrongs() {
				wantRefused(t, o, x, api.ErrArg)
			}
			wantAdded(t, o, despawn(n))
		}
		for range 2 {
			for _, x := range wrongs() {
				wantRefused(t, o, x, api.ErrArg)
			}
			wantRefused(t, o, spawn(), api.ErrFull)
		}
		if o.Given() != most || o.Dropped() != 2 {
			t.Errorf("at most %d: Given %d, Dropped %d", most, o.Given(), o.Dropped())
		}
	}
}

func TestP15_1_JustMostAndOneMore(t *testing.T) {
	for most := range api.MaxOrders + 1 {
		o := made(t, five(), most)
		for n := range most {
			wantAdded(t, o, insert(n, n%comps))
		}
		for range 3 {
			for _, x := range []api.Order{spawn(pos), despawn(1), insert(1, hp), remove(1, look)} {
				wantRefused(t, o, x, api.ErrFull)
			}
		}
		if o.Dropped() != 12 || o.Given() != most {
			t.Errorf("at most %d: Given %d, Dropped %d", most, o.Given(), o.Dropped())
		}
	}
}

// TestP15_1_Turn: as many may be added again, behind what waits; what was dropped stays dropped and counted.
func TestP15_1_Turn(t *testing.T) {
	for _, most := range []int{0, 1, 2, 5, api.MaxOrders} {
		o := made(t, five(), most)
		o.Turn()
		wantTold(t, "Turn of nothing", o, 0, 0)
		var waiting []api.Order
		for turn := range 4 {
			for n := range most {
				x := insert(100*turn+n, n%comps)
				wantAdded(t, o, x)
				waiting = append(waiting, x)
			}
			wantRefused(t, o, spawn(vel), api.ErrFull)
			wantTold(t, "ahead of Turn", o, most, turn+1, waiting...)
			o.Turn()
			wantTold(t, "behind Turn", o, 0, turn+1, waiting...)
			o.Turn()
			wantTold(t, "behind two", o, 0, turn+1, waiting...)
		}
	}
}

// TestP15_1_TurnAheadOfMost: what was given ahead of Turn doesn't count behind it, be it less than most.
func TestP15_1_TurnAheadOfMost(t *testing.T) {
	o := made(t, five(), 3)
	add(t, o, despawn(1), despawn(2))
	o.Turn()
	wantTold(t, "behind Turn", o, 0, 0, despawn(1), despawn(2))
	add(t, o, despawn(3), despawn(4), despawn(5))
	wantRefused(t, o, despawn(6), api.ErrFull)
	wantTold(t, "three more", o, 3, 1, despawn(1), despawn(2), despawn(3), despawn(4), despawn(5))
}

// TestP15_1_TheSameTwice: equal commands are each one of their own.
func TestP15_1_TheSameTwice(t *testing.T) {
	o := made(t, five(), 6)
	for range 2 {
		for _, x := range []api.Order{spawn(pos), spawn(pos), despawn(1)} {
			wantAdded(t, o, x)
		}
	}
	wantRefused(t, o, spawn(pos), api.ErrFull)
}

func TestP15_1_NilOrders(t *testing.T) {
	var o *orders.Orders
	w, err := world.New(five(), 3, 1)
	if err != nil {
		t.Fatal(err)
	}
	for range 2 {
		for _, x := range append(wrongs(), spawn(), spawn(pos), despawn(1), insert(1, hp), remove(1, hp)) {
			wants(t, fmt.Sprintf("Add %+v", x), o.Add(x), api.ErrNil)
		}
		for _, on := range []*world.World{w, nil} {
			r, err := o.Flush(on)
			wants(t, "Flush", err, api.ErrNil)
			if r != (orders.Report{}) {
				t.Errorf("Flush: %+v beside the error", r)
			}
		}
		o.Turn()
		wantTold(t, "nil", o, 0, 0)
	}
	if w.Count() != 0 || w.State().Next != 1 {
		t.Errorf("the world is %+v", w.State())
	}
}
