package store_test

import (
	"errors"
	"fmt"
	"math"
	"slices"
	"strings"
	"testing"

	"pasodoble/api"
	"pasodoble/blame"
	"pasodoble/store"
)

// ends are numbers at both ends of 64 bits and of 32 bits, and some that wrap round to a small one.
var ends = []int{
	math.MinInt, math.MinInt + 1, -1 << 62, -1 << 32, -1<<32 + 1, math.MinInt32, -65, -64, -16, -2, -1,
	1<<31 - 1, 1 << 31, 1<<32 - 1, 1 << 32, 1<<32 + 1, 1 << 62, math.MaxInt - 1, math.MaxInt,
}

// values that a cell, a Tick or a frame may be.
var values = []int{0, 1, -1, 7, 1 << 32, -1 << 32, math.MinInt, math.MaxInt}

const allBits = api.Mask(math.MaxUint32)

// widths are those of the components of most tests' stores.
var widths = []int{2, 1, 4, 3}

// schemaOf is a schema that can be, with components of these widths.
func schemaOf(widths ...int) api.Schema {
	s := api.Schema{Resources: []api.Resource{{Name: "score", Value: 3}}}
	for i, width := range widths {
		s.Components = append(s.Components, api.Component{Name: "c" + string(rune('a'+i)), Width: width, Rollback: i%2 == 0})
	}
	return s
}

// repeated are so many widths, each of 1 to 4 in turn.
func repeated(many int) []int {
	var list []int
	for i := range many {
		list = append(list, 1+i%api.MaxWidth)
	}
	return list
}

func made(t *testing.T, most int, widths ...int) *store.Store {
	t.Helper()
	s, err := store.New(schemaOf(widths...), most)
	if s == nil || err != nil {
		t.Fatalf("New %v, %d: %v, %v", widths, most, s, err)
	}
	return s
}

// part is one of a component with a value in its first cell, which fits whatever the width is.
func part(comp, n int) api.Part {
	return api.Part{Comp: comp, Values: [api.MaxWidth]int{n}, Tick: n}
}

// full is a part that fits a width, with all its cells apart from each other and from those of other n.
func full(comp, width, n int) api.Part {
	p := api.Part{Comp: comp, Tick: 1000 + n}
	for cell := range width {
		p.Values[cell] = 100*n + 10*comp + cell + 1
	}
	return p
}

// fulls are parts of a set of components, by rising Comp.
func fulls(widths []int, set api.Mask, n int) []api.Part {
	var list []api.Part
	for comp, width := range widths {
		if set>>comp%2 == 1 {
			list = append(list, full(comp, width, n))
		}
	}
	return list
}

// misfits are parts that don't fit components of these widths, by their Comp, by a value behind the width, or by both.
func misfits(widths []int) []api.Part {
	var list []api.Part
	for _, comp := range noComps(len(widths)) {
		list = append(list, part(comp, 1), part(comp, 0), api.Part{Comp: comp, Values: [api.MaxWidth]int{1, 2, 3, 4}, Tick: 1})
	}
	for comp, width := range widths {
		for cell := width; cell < api.MaxWidth; cell++ {
			for _, value := range values[1:] {
				p := full(comp, width, 1)
				p.Values[cell] = value
				list = append(list, p)
			}
		}
		if width+1 < api.MaxWidth {
			p := full(comp, width, 1)
			p.Values[width], p.Values[width+1] = 5, -5
			list = append(list, p)
		}
	}
	return list
}

// noComps are the numbers that aren't a component's, where there are so many.
func noComps(components int) []int {
	list := []int{components, components + 1, 15, 16, 17, 31, 32, 33, 63, 64, 65, 255, 256, 257, 1 << 16}
	list = slices.DeleteFunc(list, func(comp int) bool { return comp < components })
	return append(list, ends...)
}

func spawned(t *testing.T, s *store.Store, parts ...api.Part) api.Entity {
	t.Helper()
	e, err := s.Spawn(parts...)
	if err != nil || !s.Alive(e) {
		t.Fatalf("Spawn %v: %v, %v", parts, e, err)
	}
	return e
}

// wants asks that just this one of the named errors is told.
func wants(t *testing.T, name string, err, want error) {
	t.Helper()
	if !errors.Is(err, want) || len(blame.Leaves(err)) != 1 {
		t.Errorf("%s: %v %v, want %v", name, err, blame.Leaves(err), want)
	}
}

// wantsNoEntity asks that an error is told, and no entity beside it.
func wantsNoEntity(t *testing.T, name string, e api.Entity, err, want error) {
	t.Helper()
	wants(t, name, err, want)
	if e != (api.Entity{}) {
		t.Errorf("%s: %v beside the error", name, e)
	}
}

// wantsNoPart asks that an error is told, and no part beside it.
func wantsNoPart(t *testing.T, name string, p api.Part, err, want error) {
	t.Helper()
	wants(t, name, err, want)
	if p != (api.Part{}) {
		t.Errorf("%s: %v beside the error", name, p)
	}
}

// wantsNoParts asks that an error is told, and no list beside it.
func wantsNoParts(t *testing.T, name string, parts []api.Part, err, want error) {
	t.Helper()
	wants(t, name, err, want)
	if len(parts) != 0 {
		t.Errorf("%s: %v beside the error", name, parts)
	}
}

func wantPart(t *testing.T, name string, p api.Part, err error, want api.Part) {
	t.Helper()
	if p != want || err != nil {
		t.Fatalf("%s: %v, %v, want %v", name, p, err, want)
	}
}

func wantParts(t *testing.T, name string, parts []api.Part, err error, want ...api.Part) {
	t.Helper()
	if !slices.Equal(parts, want) || err != nil {
		t.Fatalf("%s: %v, %v, want %v", name, parts, err, want)
	}
}

func wantEntities(t *testing.T, name string, got []api.Entity, want ...api.Entity) {
	t.Helper()
	if !slices.Equal(got, want) {
		t.Errorf("%s: %v, want %v", name, got, want)
	}
}

// wantHas asks that an entity has just these parts, which rise by Comp, by all calls that tell it.
func wantHas(t *testing.T, name string, s *store.Store, e api.Entity, want ...api.Part) {
	t.Helper()
	got, err := s.Parts(e)
	wantParts(t, fmt.Sprint(name, ": Parts ", e), got, err, want...)
	var set api.Mask
	for _, p := range want {
		set |= 1 << p.Comp
		got, err := s.Get(e, p.Comp)
		wantPart(t, fmt.Sprint(name, ": Get ", e, p.Comp), got, err, p)
	}
	if m, err := s.Mask(e); m != set || err != nil {
		t.Fatalf("%s: Mask %v: %d, %v, want %d", name, e, m, err, set)
	}
	for comp := range api.MaxComponents {
		if set>>comp%2 == 0 {
			p, err := s.Get(e, comp)
			wantsNoPart(t, fmt.Sprint(name, ": Get ", e, comp), p, err, api.ErrNone)
		}
	}
	if !s.Alive(e) {
		t.Fatalf("%s: %v isn't alive", name, e)
	}
}

// told is all that a store tells of what it holds.
func told(s *store.Store) string {
	var b strings.Builder
	fmt.Fprintln(&b, s.Count(), s.Tables())
	for _, e := range s.Match(0, 0) {
		parts, err := s.Parts(e)
		set, _ := s.Mask(e)
		fmt.Fprintln(&b, e, s.Alive(e), set, parts, err)
	}
	for comp := range api.MaxComponents {
		fmt.Fprintln(&b, comp, s.Changed(comp, math.MinInt), s.Changed(comp, 5), s.Match(1<<comp, 0), s.Match(0, 1<<comp))
	}
	return b.String()
}

// wantTold asks that a store tells what it told before.
func wantTold(t *testing.T, name string, s *store.Store, before string) {
	t.Helper()
	if now := told(s); now != before {
		t.Fatalf("%s: the store is another one:\n%s\nit was:\n%s", name, now, before)
	}
}

func wantTables(t *testing.T, name string, s *store.Store, want int) {
	t.Helper()
	if got := s.Tables(); got != want {
		t.Errorf("%s: Tables %d, want %d", name, got, want)
	}
}
