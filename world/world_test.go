package world_test

import (
	"errors"
	"fmt"
	"math"
	"slices"
	"strings"
	"testing"

	"pasodoble/api"
	"pasodoble/blame"
	"pasodoble/journal"
	"pasodoble/world"
)

// last is the last frame, and the last number that somebody can have.
const last = api.MaxFrame

// ends are numbers at both ends of 64 bits and of 32 bits, and some that wrap round to a small one.
var ends = []int{
	math.MinInt, math.MinInt + 1, -1 << 62, -1 << 32, -1<<32 + 1, math.MinInt32, -last, -65, -64, -2, -1,
	last + 2, 1<<31 - 1, 1 << 31, 1<<32 - 1, 1 << 32, 1<<32 + 1, 1 << 62, math.MaxInt - 1, math.MaxInt,
}

// values that a cell, a Tick, a resource or a seed may be.
var values = []int{0, 1, -1, 7, last + 1, 1 << 32, -1 << 32, math.MinInt, math.MaxInt}

// The components of most tests' worlds, by their numbers.
const (
	pos = iota
	hp
	look // only shown
	vel
	hue // only shown
	comps
)

var (
	widths = [comps]int{2, 1, 1, 4, 3}
	rolls  = [comps]bool{true, true, false, true, false}
	begin  = [comps][api.MaxWidth]int{{5, 6}, {9}, {7}, {1, 2, 3, 4}, {0, 8, 0}}
)

// five is a schema that can be, with two resources.
func five() api.Schema {
	s := api.Schema{Resources: []api.Resource{{Name: "score", Value: 3}, {Name: "time", Value: -1}}}
	for comp, name := range []string{"pos", "hp", "look", "vel", "hue"} {
		s.Components = append(s.Components, api.Component{
			Name: name, Width: widths[comp], Rollback: rolls[comp], Default: begin[comp],
		})
	}
	return s
}

// part is one of a component with a value in its first cell, which fits.
func part(comp, n int) api.Part {
	return api.Part{Comp: comp, Values: [api.MaxWidth]int{n}, Tick: n}
}

// full is a part that fits its width, with all its cells apart from each other and from those of other n.
func full(comp, n int) api.Part {
	p := api.Part{Comp: comp, Tick: 1000 + n}
	for cell := range widths[comp] {
		p.Values[cell] = 100*n + 10*comp + cell + 1
	}
	return p
}

// fulls are parts of these components, in this order.
func fulls(n int, comps ...int) []api.Part {
	var list []api.Part
	for _, comp := range comps {
		list = append(list, full(comp, n))
	}
	return list
}

func being(id int, parts ...api.Part) api.Being { return api.Being{ID: id, Parts: parts} }

// misfits are parts that don't fit, by their Comp or by a value behind the width.
func misfits() []api.Part {
	var list []api.Part
	for _, comp := range noComps() {
		list = append(list, part(comp, 1), api.Part{Comp: comp})
	}
	for comp, width := range widths {
		for cell := width; cell < api.MaxWidth; cell++ {
			p := full(comp, 1)
			p.Values[cell] = -1 << (16 * cell)
			list = append(list, p)
		}
	}
	return list
}

// noComps are numbers that aren't a component's.
func noComps() []int {
	return append([]int{comps, comps + 1, 15, 16, 31, 32, 33, 64, 256, 256 + pos}, ends...)
}

// noIDs are numbers that nobody has, where three were given.
func noIDs() []int { return append([]int{0, 4, 5, 64, 256 + 1, last, last + 1}, ends...) }

func made(t *testing.T, most, seed int) *world.World {
	t.Helper()
	w, err := world.New(five(), most, seed)
	if w == nil || err != nil {
		t.Fatalf("New %d, %d: %v, %v", most, seed, w, err)
	}
	return w
}

func built(t *testing.T, most int, st api.State) *world.World {
	t.Helper()
	w, err := world.Build(five(), most, st)
	if w == nil || err != nil {
		t.Fatalf("Build %d, %+v: %v, %v", most, st, w, err)
	}
	return w
}

func spawned(t *testing.T, w *world.World, parts ...api.Part) int {
	t.Helper()
	id, err := w.Spawn(parts...)
	if id == 0 || err != nil {
		t.Fatalf("Spawn %v: %d, %v", parts, id, err)
	}
	return id
}

// stage is a world that is recorded to a journal.
type stage struct {
	*testing.T
	*world.World
	j *journal.Journal
}

// staged is a world with the entities 1 to 3, one of all components, one of pos and look, one of nothing. All that is
// done from then on is noted.
func staged(t *testing.T) *stage {
	t.Helper()
	w := made(t, 5, 77)
	spawned(t, w, fulls(1, vel, hue, pos, look, hp)...)
	spawned(t, w, fulls(2, look, pos)...)
	spawned(t, w)
	for range 4 {
		w.Tick()
	}
	return recorded(t, w)
}

// recorded makes a world be recorded to a journal of its own, with the mark 0.
func recorded(t *testing.T, w *world.World) *stage {
	t.Helper()
	j := marked(t, 1000)
	w.Record(j)
	return &stage{t, w, j}
}

// marked is a journal of at most so many entries, with the mark 0.
func marked(t *testing.T, most int) *journal.Journal {
	t.Helper()
	j, err := journal.New(most)
	if err != nil {
		t.Fatal(err)
	}
	if err := j.Mark(0); err != nil {
		t.Fatal(err)
	}
	return j
}

// mark begins one more stretch, to which nothing is known.
func (x *stage) mark() int {
	x.Helper()
	marks := x.j.Marks()
	frame := marks[len(marks)-1] + 1
	if err := x.j.Mark(frame); err != nil {
		x.Fatal(err)
	}
	return frame
}

// wantNotes asks for what a call that answers no error notes, in order, each field of it.
func (x *stage) wantNotes(name string, call func() error, want ...api.Undo) {
	x.Helper()
	frame := x.mark()
	if err := call(); err != nil {
		x.Fatalf("%s: %v", name, err)
	}
	got, err := x.j.Since(frame)
	if err != nil {
		x.Fatal(err)
	}
	slices.Reverse(got)
	if !slices.EqualFunc(got, want, journal.Same) {
		x.Errorf("%s notes %+v, want %+v", name, got, want)
	}
}

// wantRefused asks that a call answers just this error, and changes and notes nothing.
func (x *stage) wantRefused(name string, want error, call func() error) {
	x.Helper()
	x.mark()
	before, noted := told(x.World), toldOf(x.j)
	wants(x.T, name, call(), want)
	if now := told(x.World); now != before {
		x.Errorf("%s, which is refused, changed the world:\n%s\nit was:\n%s", name, now, before)
	}
	if now := toldOf(x.j); now != noted {
		x.Errorf("%s, which is refused, noted something:\n%s\nahead of it:\n%s", name, now, noted)
	}
}

// wantUnnoted asks that a call answers no error, and notes nothing.
func (x *stage) wantUnnoted(name string, call func() error) {
	x.Helper()
	x.wantNotes(name, call)
}

// wantParts asks Parts, and Get of each component, for all parts of somebody.
func (x *stage) wantParts(name string, id int, want ...api.Part) {
	x.Helper()
	wantParts(x.T, name, x.World, id, want...)
}

func wantParts(t *testing.T, name string, w *world.World, id int, want ...api.Part) {
	t.Helper()
	got, err := w.Parts(id)
	if err != nil || !slices.Equal(got, want) {
		t.Errorf("%s: Parts %d: %v, %v, want %v", name, id, got, err, want)
	}
	for comp := range comps {
		p, err := w.Get(id, comp)
		at := slices.IndexFunc(want, func(p api.Part) bool { return p.Comp == comp })
		if at < 0 {
			wantsNoPart(t, fmt.Sprintf("%s: Get %d, %d", name, id, comp), p, err, api.ErrNone)
		} else if err != nil || p != want[at] {
			t.Errorf("%s: Get %d, %d: %v, %v, want %v", name, id, comp, p, err, want[at])
		}
	}
}

// wantGone asks that nobody has a number.
func wantGone(t *testing.T, name string, w *world.World, id int) {
	t.Helper()
	parts, err := w.Parts(id)
	wants(t, fmt.Sprintf("%s: Parts %d", name, id), err, api.ErrDead)
	if len(parts) != 0 {
		t.Errorf("%s: Parts %d: %v beside the error", name, id, parts)
	}
	for comp := range comps {
		p, err := w.Get(id, comp)
		wantsNoPart(t, fmt.Sprintf("%s: Get %d, %d", name, id, comp), p, err, api.ErrDead)
	}
}

// wants asks that this one of the named errors is told, and no other one.
func wants(t *testing.T, name string, err, want error) {
	t.Helper()
	for _, leaf := range blame.Leaves(err) {
		if leaf.Number != blame.Number(want) {
			t.Errorf("%s: %v, want %v alone", name, blame.Leaves(err), want)
		}
	}
	if !errors.Is(err, want) {
		t.Errorf("%s: %v %v, want %v", name, err, blame.Leaves(err), want)
	}
}

// wantsNoPart asks that an error is told, and no part beside it.
func wantsNoPart(t *testing.T, name string, p api.Part, err, want error) {
	t.Helper()
	wants(t, name, err, want)
	if p != (api.Part{}) {
		t.Errorf("%s: %v beside the error", name, p)
	}
}

// wantsNoWorld asks that an error is told, and no world beside it.
func wantsNoWorld(t *testing.T, name string, w *world.World, err, want error) {
	t.Helper()
	wants(t, name, err, want)
	if w != nil {
		t.Errorf("%s: a world beside the error", name)
	}
}

// filters are some of each kind.
var filters = []api.Filter{
	{}, {With: 1 << pos}, {With: 1 << look}, {With: 1<<pos | 1<<hp}, {Without: 1 << pos}, {With: 1 << 31},
	{With: 1 << pos, Changed: 1 << pos}, {With: 1 << hp, Changed: 1 << hp, Without: 1 << vel}, {Changed: 1 << look},
}

// told is all that a world tells.
func told(w *world.World) string {
	var text strings.Builder
	fmt.Fprintln(&text, w.Frame(), w.Count(), w.State(), w.View())
	for i := range 3 {
		fmt.Fprintln(&text, fmt.Sprint(w.Resource(i)))
	}
	for _, f := range filters {
		fmt.Fprintln(&text, w.Query(f))
	}
	return text.String()
}

// toldOf is all that a journal tells.
func toldOf(j *journal.Journal) string {
	var text strings.Builder
	fmt.Fprintln(&text, j.Marks(), j.Len())
	for _, frame := range j.Marks() {
		fmt.Fprintln(&text, fmt.Sprint(j.Since(frame)))
	}
	return text.String()
}

// wantState asks for a state, by State and by the calls that tell a piece of it, and that each list is in its order.
func wantState(t *testing.T, name string, w *world.World, want api.State) {
	t.Helper()
	got := w.State()
	if !same(got, want) {
		t.Errorf("%s: State %+v, want %+v", name, got, want)
	}
	if w.Frame() != want.Frame || w.Count() != len(want.Beings) {
		t.Errorf("%s: Frame %d, Count %d, want %d, %d", name, w.Frame(), w.Count(), want.Frame, len(want.Beings))
	}
	for i, value := range want.Resources {
		if n, ok := w.Resource(i); n != value || !ok {
			t.Errorf("%s: Resource %d: %d, %v, want %d", name, i, n, ok, value)
		}
	}
	for _, i := range append([]int{len(want.Resources), len(want.Resources) + 1, api.MaxResources}, ends...) {
		if n, ok := w.Resource(i); n != 0 || ok {
			t.Errorf("%s: Resource %d: %d, %v", name, i, n, ok)
		}
	}
	var ids []int
	for _, b := range want.Beings {
		ids = append(ids, b.ID)
	}
	if list := w.Query(api.Filter{}); !slices.Equal(list, ids) {
		t.Errorf("%s: Query of everybody: %v, want %v", name, list, ids)
	}
}

// same is Same, told another way: all that a state holds, as a text. (A list is told as its elements: nil or empty.)
func same(a, b api.State) bool { return fmt.Sprintf("%+v", a) == fmt.Sprintf("%+v", b) }

// copied is a state that shares nothing with another one.
func copied(st api.State) api.State {
	st.Beings = slices.Clone(st.Beings)
	for i, b := range st.Beings {
		st.Beings[i].Parts = slices.Clone(b.Parts)
	}
	st.Resources = slices.Clone(st.Resources)
	return st
}

func unmarked(t *testing.T) *journal.Journal {
	t.Helper()
	j, err := journal.New(100)
	if err != nil {
		t.Fatal(err)
	}
	return j
}
