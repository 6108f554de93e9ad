package atlas_test

import (
	"errors"
	"fmt"
	"math"
	"math/rand"
	"slices"
	"testing"

	"pasodoble/api"
	"pasodoble/atlas"
	"pasodoble/blame"
)

// ends are numbers at both ends of 64 bits and of 32 bits, and some that wrap round to a small one.
var ends = []int{
	math.MinInt, math.MinInt + 1, -1 << 32, -1<<32 + 1, math.MinInt32, -64, -32, -16, -2, -1,
	1<<31 - 1, 1 << 31, 1<<32 - 1, 1 << 32, 1<<32 + 1, math.MaxInt - 1, math.MaxInt,
}

const allBits = api.Mask(math.MaxUint32)

// bit is the set of one number.
func bit(number int) api.Mask { return api.Mask(1) << number }

// most is the set of all of so many components.
func most(components int) api.Mask {
	var m api.Mask
	for comp := range components {
		m |= bit(comp)
	}
	return m
}

func made(t *testing.T, components int, sets ...api.Mask) *atlas.Atlas {
	t.Helper()
	a, err := atlas.New(components)
	if a == nil || err != nil {
		t.Fatalf("New %d: %v, %v", components, a, err)
	}
	for i, m := range sets {
		wantAt(t, a, m, i+1)
	}
	return a
}

// wants asks that just this one of the named errors is told.
func wants(t *testing.T, name string, err, want error) {
	t.Helper()
	if !errors.Is(err, want) || len(blame.Leaves(err)) != 1 {
		t.Errorf("%s: %v %v, want %v", name, err, blame.Leaves(err), want)
	}
}

// wantsNoNode asks that an error is told, and no node beside it.
func wantsNoNode(t *testing.T, name string, node int, err, want error) {
	t.Helper()
	wants(t, name, err, want)
	if node != 0 {
		t.Errorf("%s: %d beside the error", name, node)
	}
}

// wantsNoWay asks that an error is told, and no list beside it.
func wantsNoWay(t *testing.T, name string, way []int, err, want error) {
	t.Helper()
	wants(t, name, err, want)
	if len(way) != 0 {
		t.Errorf("%s: %v beside the error", name, way)
	}
}

func wantNode(t *testing.T, name string, node int, err error, want int) {
	t.Helper()
	if node != want || err != nil {
		t.Fatalf("%s: %d, %v, want %d", name, node, err, want)
	}
}

func wantAt(t *testing.T, a *atlas.Atlas, m api.Mask, want int) {
	t.Helper()
	node, err := a.At(m)
	wantNode(t, fmt.Sprint("At ", m), node, err, want)
}

func wantMatch(t *testing.T, a *atlas.Atlas, with, without api.Mask, want ...int) {
	t.Helper()
	if got := a.Match(with, without); !slices.Equal(got, want) {
		t.Errorf("Match %d, %d: %v, want %v", with, without, got, want)
	}
}

func wantWay(t *testing.T, a *atlas.Atlas, from, to int, want ...int) {
	t.Helper()
	if got, err := a.Way(from, to); !slices.Equal(got, want) || err != nil {
		t.Errorf("Way %d, %d: %v, %v, want %v", from, to, got, err, want)
	}
}

// wantSets asks that the nodes of an atlas are just these, the empty set's ahead of them: by their numbers, and by
// their sets, which makes none anew.
func wantSets(t *testing.T, name string, a *atlas.Atlas, sets ...api.Mask) {
	t.Helper()
	want := append([]api.Mask{0}, sets...)
	if a.Len() != len(want) {
		t.Fatalf("%s: Len %d, want %d", name, a.Len(), len(want))
	}
	for node, m := range want {
		if got, err := a.Mask(node); got != m || err != nil {
			t.Fatalf("%s: Mask %d: %d, %v, want %d", name, node, got, err, m)
		}
		if got, err := a.At(m); got != node || err != nil {
			t.Fatalf("%s: At %d: %d, %v, want %d", name, m, got, err, node)
		}
	}
	m, err := a.Mask(len(want))
	wants(t, name+": one node more", err, api.ErrNone)
	if m != 0 || a.Len() != len(want) {
		t.Fatalf("%s: Mask of one node more %d, Len behind asking %d", name, m, a.Len())
	}
}

func TestP8_1_New(t *testing.T) {
	for components := 0; components <= api.MaxComponents; components++ {
		a := made(t, components)
		wantSets(t, fmt.Sprint("New ", components), a)
		wantMatch(t, a, 0, 0, 0)
		wantMatch(t, a, 0, allBits, 0)
		wantMatch(t, a, 1, 0)
		wantWay(t, a, 0, 0, 0)
	}
}

func TestP8_1_NewOfTooManyOrFewerThanNone(t *testing.T) {
	for _, components := range append([]int{17, 18, 31, 32, 33, 63, 64, 65, 256, 1 << 16}, ends...) {
		a, err := atlas.New(components)
		wants(t, fmt.Sprint("New ", components), err, api.ErrArg)
		if a != nil {
			t.Errorf("New %d: an atlas beside the error", components)
		}
	}
}

func TestP8_1_Len(t *testing.T) {
	a := made(t, 4)
	for i, m := range []api.Mask{8, 3, 8, 0, 15, 3, 1} {
		a.At(m)
		if want := []int{2, 3, 3, 3, 4, 4, 5}[i]; a.Len() != want {
			t.Errorf("behind At %d: Len %d, want %d", m, a.Len(), want)
		}
	}
}

func TestP8_1_EachNewIsAnotherOne(t *testing.T) {
	a, b := made(t, 3), made(t, 3)
	wantAt(t, a, 5, 1)
	wantSets(t, "what is done to another one", b)
	wantAt(t, b, 2, 1)
	wantSets(t, "what is done to another one", a, 5)
}

func TestP8_1_NilAtlas(t *testing.T) {
	var a *atlas.Atlas
	if a.Len() != 0 {
		t.Error("Len", a.Len())
	}
	for _, m := range []api.Mask{0, 1, 1 << 16, 1 << 31, allBits} {
		node, err := a.At(m)
		wantsNoNode(t, "At", node, err, api.ErrNil)
		if got := a.Match(m, 0); len(got) != 0 {
			t.Error("Match", m, got)
		}
		if got := a.Match(0, m); len(got) != 0 {
			t.Error("Match without", m, got)
		}
	}
	for _, x := range append(ends, 0, 1, 16) {
		m, err := a.Mask(x)
		wantsNoNode(t, "Mask", int(m), err, api.ErrNil)
		for _, y := range append(ends, 0, 1, 16) {
			node, err := a.With(x, y)
			wantsNoNode(t, "With", node, err, api.ErrNil)
			node, err = a.Without(x, y)
			wantsNoNode(t, "Without", node, err, api.ErrNil)
			way, err := a.Way(x, y)
			wantsNoWay(t, "Way", way, err, api.ErrNil)
		}
	}
}

func TestP8_2_Example(t *testing.T) {
	a := made(t, 3, 3)
	node, err := a.With(1, 2)
	wantNode(t, "With 1, 2", node, err, 2)
	node, err = a.Without(2, 0)
	wantNode(t, "Without 2, 0", node, err, 3)
	wantWay(t, a, 1, 3, 1, 4, 3)
	wantSets(t, "the example", a, 3, 7, 6, 2)
}

func TestP8_2_AtNumbersInTheOrderOfMaking(t *testing.T) {
	sets := []api.Mask{9, 2, 31, 16, 1, 30, 7}
	a := made(t, 5)
	for i, m := range sets {
		wantAt(t, a, m, i+1)
		for j, again := range sets[:i+1] {
			wantAt(t, a, again, j+1)
		}
		wantAt(t, a, 0, 0)
		wantSets(t, "so far", a, sets[:i+1]...)
	}
}

func TestP8_2_AtOfAllComponents(t *testing.T) {
	for components := 1; components <= api.MaxComponents; components++ {
		a := made(t, components, most(components))
		wantSets(t, "all of them", a, most(components))
		a = made(t, components)
		for comp := range components {
			wantAt(t, a, bit(comp), comp+1)
		}
	}
}

func TestP8_2_AtOfNoComponent(t *testing.T) {
	for components := 0; components <= api.MaxComponents; components++ {
		a := made(t, components)
		for number := components; number < 32; number++ {
			for _, m := range []api.Mask{bit(number), bit(number) | most(components), bit(number) | 1<<31, allBits&^bit(number) | 1<<31} {
				node, err := a.At(m)
				wantsNoNode(t, fmt.Sprintf("At %d of %d components", m, components), node, err, api.ErrArg)
			}
		}
		for _, m := range []api.Mask{allBits, allBits &^ most(components), most(components) + 1, most(components)<<16 | 1<<31} {
			node, err := a.At(m)
			wantsNoNode(t, fmt.Sprintf("At %d of %d components", m, components), node, err, api.ErrArg)
		}
		wantSets(t, "behind all the errors", a)
	}
}

// none are the numbers that aren't a node's, where there are so many nodes.
func none(nodes int) []int {
	return append([]int{nodes, nodes + 1, nodes + 16, nodes + 256, nodes + 1<<16, nodes + 1<<32, -nodes}, ends...)
}

// noComps are the numbers that aren't a component's, where there are so many components.
func noComps(components int) []int {
	list := slices.Clone(ends)
	for number := components; number <= 70; number++ {
		list = append(list, number)
	}
	return append(list, 128, 256, 1<<16, 1<<16+1)
}

func TestP8_2_Mask(t *testing.T) {
	a := made(t, 6, 5, 63, 32, 1)
	for node, want := range []api.Mask{0, 5, 63, 32, 1} {
		for range 3 {
			if m, err := a.Mask(node); m != want || err != nil {
				t.Errorf("Mask %d: %d, %v, want %d", node, m, err, want)
			}
		}
	}
}

func TestP8_2_NoSuchNode(t *testing.T) {
	for _, sets := range [][]api.Mask{nil, {3}, {7, 6, 1}} {
		a := made(t, 3, sets...)
		for _, n := range none(len(sets) + 1) {
			m, err := a.Mask(n)
			wantsNoNode(t, fmt.Sprint("Mask ", n), int(m), err, api.ErrNone)
			for _, comp := range append(noComps(3), 0, 1, 2) {
				node, err := a.With(n, comp)
				wantsNoNode(t, fmt.Sprintf("With %d, %d", n, comp), node, err, api.ErrNone)
				node, err = a.Without(n, comp)
				wantsNoNode(t, fmt.Sprintf("Without %d, %d", n, comp), node, err, api.ErrNone)
			}
		}
		wantSets(t, "behind all the errors", a, sets...)
	}
}

func TestP8_2_NoSuchComponent(t *testing.T) {
	for components := 0; components <= api.MaxComponents; components++ {
		a, sets := made(t, components), []api.Mask(nil)
		if components > 0 {
			sets = []api.Mask{most(components)}
			wantAt(t, a, sets[0], 1)
		}
		for n := range a.Len() {
			for _, comp := range noComps(components) {
				node, err := a.With(n, comp)
				wantsNoNode(t, fmt.Sprintf("With %d, %d of %d components", n, comp, components), node, err, api.ErrArg)
				node, err = a.Without(n, comp)
				wantsNoNode(t, fmt.Sprintf("Without %d, %d of %d components", n, comp, components), node, err, api.ErrArg)
			}
		}
		wantSets(t, "behind all the errors", a, sets...)
	}
}

func TestP8_2_WithAndWithoutMakeNodes(t *testing.T) {
	for components := 1; components <= api.MaxComponents; components++ {
		a := made(t, components)
		var sets []api.Mask
		for comp := range components {
			node, err := a.With(comp, comp)
			wantNode(t, fmt.Sprint("With, up to ", comp), node, err, comp+1)
			sets = append(sets, most(comp+1))
			wantSets(t, "one more", a, sets...)
		}
		full := components
		for comp := range components - 1 {
			node, err := a.Without(full, comp)
			wantNode(t, fmt.Sprint("Without ", comp), node, err, full+comp+1)
			sets = append(sets, most(components)&^bit(comp))
			wantSets(t, "one less", a, sets...)
		}
	}
}

func TestP8_2_WithAndWithoutFindNodes(t *testing.T) {
	sets := []api.Mask{1, 2, 4, 3, 5, 6, 7}
	a := made(t, 3, sets...)
	for n, m := range append([]api.Mask{0}, sets...) {
		for comp := range 3 {
			with, err := a.With(n, comp)
			wantNode(t, fmt.Sprintf("With %d, %d", n, comp), with, err, 1+slices.Index(sets, m|bit(comp)))
			without, err := a.Without(n, comp)
			wantNode(t, fmt.Sprintf("Without %d, %d", n, comp), without, err, 1+slices.Index(sets, m&^bit(comp)))
		}
	}
	wantSets(t, "none was made", a, sets...)
}

func TestP8_2_WhatASetHasAlreadyAndWhatItHasnt(t *testing.T) {
	for components := 1; components <= api.MaxComponents; components++ {
		a := made(t, components, most(components))
		for comp := range components {
			node, err := a.With(1, comp)
			wantNode(t, "With of what it has", node, err, 1)
			node, err = a.Without(0, comp)
			wantNode(t, "Without of what it hasn't", node, err, 0)
		}
		wantSets(t, "none was made", a, most(components))
	}
}

func TestP8_2_ThereAndBack(t *testing.T) {
	a := made(t, 8, 0b10110100)
	for comp := range 8 {
		there, back := a.With, a.Without
		if 0b10110100&bit(comp) != 0 {
			there, back = back, there
		}
		node, err := there(1, comp)
		wantNode(t, "there", node, err, comp+2)
		node, err = back(node, comp)
		wantNode(t, "and back", node, err, 1)
	}
}

func TestP8_3_Match(t *testing.T) {
	a := made(t, 4, 5, 15, 1, 4, 7, 10)
	wantMatch(t, a, 0, 0, 0, 1, 2, 3, 4, 5, 6)
	wantMatch(t, a, 1, 0, 1, 2, 3, 5)
	wantMatch(t, a, 5, 0, 1, 2, 5)
	wantMatch(t, a, 5, 2, 1)
	wantMatch(t, a, 5, 10, 1)
	wantMatch(t, a, 0, 1, 0, 4, 6)
	wantMatch(t, a, 0, 5, 0, 6)
	wantMatch(t, a, 0, 15, 0)
	wantMatch(t, a, 15, 0, 2)
	wantMatch(t, a, 2, 4, 6)
	wantMatch(t, a, 11, 4)
	wantSets(t, "asking makes none", a, 5, 15, 1, 4, 7, 10)
}

func TestP8_3_MatchOfSharedNumbers(t *testing.T) {
	a := made(t, 4, 5, 15, 1, 4, 7, 10)
	for with := api.Mask(1); with < 16; with++ {
		wantMatch(t, a, with, with)
		wantMatch(t, a, with, 15)
		wantMatch(t, a, 15, with)
		wantMatch(t, a, with, allBits)
		wantMatch(t, a, allBits, with)
	}
	wantMatch(t, a, 3, 6)
}

func TestP8_3_MatchOfNoComponents(t *testing.T) {
	a := made(t, 4, 5, 15, 1)
	for number := 4; number < 32; number++ {
		wantMatch(t, a, bit(number), 0)
		wantMatch(t, a, bit(number)|1, 0)
		wantMatch(t, a, 0, bit(number), 0, 1, 2, 3)
		wantMatch(t, a, 1, bit(number), 1, 2, 3)
		wantMatch(t, a, 1, bit(number)|2, 1, 3)
		wantMatch(t, a, bit(number), bit(number))
	}
	wantMatch(t, a, allBits, 0)
	wantMatch(t, a, allBits, allBits)
	wantMatch(t, a, 0, allBits, 0)
	wantMatch(t, a, 0, allBits&^5, 0, 1, 3)
	wantSets(t, "asking makes none", a, 5, 15, 1)
}

func TestP8_3_MatchGoesWithTheNodes(t *testing.T) {
	a := made(t, 3)
	wantMatch(t, a, 1, 0)
	a.At(7)
	wantMatch(t, a, 1, 0, 1)
	a.Without(1, 1)
	wantMatch(t, a, 1, 0, 1, 2)
	a.Way(2, 0)
	wantMatch(t, a, 4, 0, 1, 2, 3)
	wantMatch(t, a, 0, 2, 0, 2, 3)
}

func TestP8_3_MatchRises(t *testing.T) {
	a := made(t, api.MaxComponents)
	var sets []api.Mask
	for n := range 2000 {
		m := api.Mask(n*7919%(1<<16-1) + 1)
		wantAt(t, a, m, n+1)
		sets = append(sets, m)
	}
	for _, pair := range [][2]api.Mask{{0, 0}, {1, 0}, {0, 1}, {0x8001, 0x100}, {0x11, 0x22}} {
		var want []int
		for node, m := range append([]api.Mask{0}, sets...) {
			if m&pair[0] == pair[0] && m&pair[1] == 0 {
				want = append(want, node)
			}
		}
		for range 2 {
			wantMatch(t, a, pair[0], pair[1], want...)
		}
	}
}

func TestP8_4_WayToItself(t *testing.T) {
	a := made(t, 4, 5, 15, 8)
	for node := range 4 {
		wantWay(t, a, node, node, node)
	}
	wantSets(t, "none was made", a, 5, 15, 8)
}

func TestP8_4_WayToALargerSet(t *testing.T) {
	a := made(t, 4, 2, 15)
	wantWay(t, a, 1, 2, 1, 3, 4, 2)
	wantSets(t, "rising", a, 2, 15, 3, 7)
	wantWay(t, a, 0, 2, 0, 5, 3, 4, 2)
	wantSets(t, "through one that is made, then through those that are there", a, 2, 15, 3, 7, 1)
	wantWay(t, a, 4, 2, 4, 2)
}

func TestP8_4_WayToASmallerSet(t *testing.T) {
	a := made(t, 4, 15, 4)
	wantWay(t, a, 1, 2, 1, 3, 4, 2)
	wantSets(t, "rising", a, 15, 4, 14, 12)
	wantWay(t, a, 1, 0, 1, 3, 4, 5, 0)
	wantSets(t, "through those that are there, then through one that is made", a, 15, 4, 14, 12, 8)
	wantWay(t, a, 5, 0, 5, 0)
}

func TestP8_4_WayToASetThatIsNeither(t *testing.T) {
	a := made(t, 6, 0b101101, 0b011110)
	wantWay(t, a, 1, 2, 1, 3, 4, 5, 2)
	wantSets(t, "first less, then more", a, 0b101101, 0b011110, 0b101100, 0b001100, 0b001110)
	wantWay(t, a, 2, 1, 2, 6, 4, 7, 1)
	wantSets(t, "and back", a, 0b101101, 0b011110, 0b101100, 0b001100, 0b001110, 0b011100, 0b001101)
}

func TestP8_4_WayOfNothingShared(t *testing.T) {
	a := made(t, 4, 5, 10)
	wantWay(t, a, 1, 2, 1, 3, 0, 4, 2)
	wantSets(t, "through the empty set", a, 5, 10, 4, 2)
}

func TestP8_4_WayThroughNodesThatAreThere(t *testing.T) {
	sets := []api.Mask{7, 5, 6, 3, 4, 2, 1}
	a := made(t, 3, sets...)
	wantWay(t, a, 0, 1, 0, 7, 4, 1)
	wantWay(t, a, 1, 0, 1, 3, 5, 0)
	wantWay(t, a, 2, 3, 2, 5, 3)
	wantWay(t, a, 3, 4, 3, 6, 4)
	wantWay(t, a, 5, 6, 5, 0, 6)
	wantSets(t, "none was made", a, sets...)
}

func TestP8_4_WayOfAllComponents(t *testing.T) {
	for components := 1; components <= api.MaxComponents; components++ {
		a := made(t, components, most(components))
		up, err := a.Way(0, 1)
		if err != nil || len(up) != components+1 {
			t.Fatalf("Way up %d components: %v, %v", components, up, err)
		}
		for i, node := range up {
			if m, _ := a.Mask(node); m != most(i) {
				t.Errorf("up, %d of %d: %d", i, components, m)
			}
		}
		down, err := a.Way(1, 0)
		if err != nil || len(down) != components+1 {
			t.Fatalf("Way down %d components: %v, %v", components, down, err)
		}
		for i, node := range down {
			if m, _ := a.Mask(node); m != most(components)&^most(i) {
				t.Errorf("down, %d of %d: %d", i, components, m)
			}
		}
	}
}

func TestP8_4_WayOfNoSuchNode(t *testing.T) {
	for _, sets := range [][]api.Mask{nil, {7}, {7, 8, 1}} {
		a := made(t, 4, sets...)
		for _, n := range none(len(sets) + 1) {
			for there := range len(sets) + 1 {
				way, err := a.Way(n, there)
				wantsNoWay(t, fmt.Sprintf("Way %d, %d", n, there), way, err, api.ErrNone)
				way, err = a.Way(there, n)
				wantsNoWay(t, fmt.Sprintf("Way %d, %d", there, n), way, err, api.ErrNone)
			}
			for _, other := range none(len(sets) + 1) {
				way, err := a.Way(n, other)
				wantsNoWay(t, fmt.Sprintf("Way %d, %d", n, other), way, err, api.ErrNone)
			}
		}
		wantSets(t, "behind all the errors", a, sets...)
	}
}

// TestP8_5_AllSets makes every set that can be: each has one node, however it is come to, and none is made twice.
func TestP8_5_AllSets(t *testing.T) {
	a := made(t, api.MaxComponents)
	const sets = 1 << api.MaxComponents
	for m := api.Mask(1); m < sets; m++ {
		wantAt(t, a, m, int(m))
	}
	for node := range sets {
		comp := node % api.MaxComponents
		with, err := a.With(node, comp)
		wantNode(t, "With", with, err, node|1<<comp)
		without, err := a.Without(node, comp)
		wantNode(t, "Without", without, err, node&^(1<<comp))
		if m, err := a.Mask(node); m != api.Mask(node) || err != nil {
			t.Fatalf("Mask %d: %d, %v", node, m, err)
		}
	}
	wantWay(t, a, sets-1, 1<<15, func() (way []int) {
		for comp := range api.MaxComponents {
			way = append(way, sets-1<<comp)
		}
		return way
	}()...)
	if len(a.Match(0, 0)) != sets || len(a.Match(1, 2)) != sets/4 || a.Len() != sets {
		t.Error("behind all of them:", len(a.Match(0, 0)), len(a.Match(1, 2)), a.Len())
	}
	node, err := a.At(sets)
	wantsNoNode(t, "At of one more", node, err, api.ErrArg)
	m, err := a.Mask(sets)
	wantsNoNode(t, "Mask of one more", int(m), err, api.ErrNone)
}

func TestP8_5_ListsAreNewMemory(t *testing.T) {
	sets := []api.Mask{7, 6, 4, 1, 3}
	a := made(t, 3, sets...)
	spoil := func(list []int) {
		for i := range list[:cap(list)] {
			list[:cap(list)][i] = -7
		}
	}
	for from := range 6 {
		for to := range 6 {
			told, _ := a.Way(from, to)
			other, _ := a.Way(from, to)
			kept := slices.Clone(told)
			spoil(told)
			if !slices.Equal(other, kept) {
				t.Errorf("Way %d, %d: %v, want %v", from, to, other, kept)
			}
			wantWay(t, a, from, to, kept...)
		}
	}
	sets = append(sets, 2, 5) // made on the ways
	for with := range api.Mask(8) {
		told, other := a.Match(with, 0), a.Match(with, 0)
		kept := slices.Clone(told)
		spoil(told)
		if !slices.Equal(other, kept) {
			t.Errorf("Match %d: %v, want %v", with, other, kept)
		}
		wantMatch(t, a, with, 0, kept...)
	}
	wantSets(t, "who changes a list", a, sets...)
}

func TestP8_5_ListsThatWereToldStay(t *testing.T) {
	a := made(t, 4, 15)
	all := a.Match(0, 0)
	way, _ := a.Way(1, 0)
	kept := slices.Clone(way)
	for m := range api.Mask(16) {
		a.At(m)
	}
	a.Way(0, 1)
	if !slices.Equal(all, []int{0, 1}) || !slices.Equal(way, kept) {
		t.Error("a list that was told changes with the atlas:", all, way)
	}
}

// numbers is a set told another way than by bits: whether each number is in it.
type numbers [32]bool

func apart(m api.Mask) numbers {
	var n numbers
	for number := range n {
		n[number] = m>>number%2 == 1
	}
	return n
}

func (n numbers) mask() (m api.Mask) {
	for number, in := range n {
		if in {
			m |= bit(number)
		}
	}
	return m
}

// pair is an atlas beside the chapter's words told another way: the sets as a list, gone through at each question.
type pair struct {
	*testing.T
	a          *atlas.Atlas
	components int
	sets       []numbers
}

func (p *pair) there(node int) bool { return node >= 0 && node < len(p.sets) }

// number answers a set's node, which is made if need be.
func (p *pair) number(n numbers) int {
	if i := slices.Index(p.sets, n); i >= 0 {
		return i
	}
	p.sets = append(p.sets, n)
	return len(p.sets) - 1
}

func (p *pair) at(m api.Mask) {
	p.Helper()
	node, err := p.a.At(m)
	n := apart(m)
	if slices.Contains(n[p.components:], true) {
		wantsNoNode(p.T, fmt.Sprint("At ", m), node, err, api.ErrArg)
		return
	}
	wantNode(p.T, fmt.Sprint("At ", m), node, err, p.number(n))
}

// turn is With, if in, else Without.
func (p *pair) turn(node, comp int, in bool) {
	p.Helper()
	name, call := fmt.Sprintf("With %d, %d", node, comp), p.a.With
	if !in {
		name, call = fmt.Sprintf("Without %d, %d", node, comp), p.a.Without
	}
	got, err := call(node, comp)
	switch {
	case !p.there(node):
		wantsNoNode(p.T, name, got, err, api.ErrNone)
	case comp < 0 || comp >= p.components:
		wantsNoNode(p.T, name, got, err, api.ErrArg)
	default:
		n := p.sets[node]
		n[comp] = in
		wantNode(p.T, name, got, err, p.number(n))
	}
}

func (p *pair) way(from, to int) {
	p.Helper()
	name := fmt.Sprintf("Way %d, %d", from, to)
	got, err := p.a.Way(from, to)
	if !p.there(from) || !p.there(to) {
		wantsNoWay(p.T, name, got, err, api.ErrNone)
		return
	}
	n, end := p.sets[from], p.sets[to]
	want := []int{from}
	for _, in := range []bool{false, true} {
		for comp := range n {
			if n[comp] != in && end[comp] == in {
				n[comp] = in
				want = append(want, p.number(n))
			}
		}
	}
	if !slices.Equal(got, want) || err != nil || want[len(want)-1] != to {
		p.Fatalf("%s: %v, %v, want %v", name, got, err, want)
	}
}

// same asks that the atlas tells what the list says.
func (p *pair) same(with, without api.Mask) {
	p.Helper()
	var sets []api.Mask
	var want []int
	for node, n := range p.sets {
		sets = append(sets, n.mask())
		meant := true
		for number, in := range n {
			meant = meant && (in || !apart(with)[number]) && !(in && apart(without)[number])
		}
		if meant {
			want = append(want, node)
		}
	}
	wantSets(p.T, "a row of calls", p.a, sets[1:]...)
	wantMatch(p.T, p.a, with, without, want...)
}

// TestP8_5_DrawnRowsOfCalls plays calls that are drawn, right and wrong ones.
func TestP8_5_DrawnRowsOfCalls(t *testing.T) {
	draw := rand.New(rand.NewSource(8))
	for round := range 170 {
		p := &pair{T: t, components: round % (api.MaxComponents + 1), sets: make([]numbers, 1)}
		p.a = made(t, p.components)
		node := func() int { return draw.Intn(len(p.sets)+2) - 1 }
		for range 40 {
			switch draw.Intn(4) {
			case 0:
				p.at(api.Mask(draw.Intn(1<<p.components + 1<<p.components/4 + 1)))
			case 1, 2:
				p.turn(node(), draw.Intn(p.components+3)-1, draw.Intn(2) == 0)
			case 3:
				p.way(node(), node())
			}
			p.same(api.Mask(draw.Uint32()&draw.Uint32()&draw.Uint32()&0x1ffff), api.Mask(draw.Uint32()&draw.Uint32()&draw.Uint32()))
		}
	}
}
