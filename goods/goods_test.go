package goods_test

import (
	"errors"
	"fmt"
	"math"
	"slices"
	"testing"

	"pasodoble/api"
	"pasodoble/blame"
	"pasodoble/goods"
	"pasodoble/schema"
)

// ends are numbers at both ends of 64 bits and of 32 bits, and some that wrap round to a small one.
var ends = []int{
	math.MinInt, math.MinInt + 1, -1 << 32, -1<<32 + 1, math.MinInt32, -64, -2, -1,
	1<<31 - 1, 1 << 31, 1<<32 - 1, 1 << 32, 1<<32 + 1, math.MaxInt - 1, math.MaxInt,
}

// resources is a list of them, each value's name its own.
func resources(values ...int) []api.Resource {
	var list []api.Resource
	for i, value := range values {
		list = append(list, api.Resource{Name: resourceName(i), Value: value})
	}
	return list
}

func resourceName(i int) string { return "res" + string(rune('a'+i)) }

// withComponents is a schema of two components beside resources with these values.
func withComponents(values ...int) api.Schema {
	return api.Schema{
		Components: []api.Component{
			{Name: "pos", Width: 2, Rollback: true, Default: [api.MaxWidth]int{5, 6}},
			{Name: "look", Width: 1},
		},
		Resources: resources(values...),
	}
}

// made is goods of a schema that can be.
func made(t *testing.T, s api.Schema) *goods.Goods {
	t.Helper()
	g, err := goods.New(s)
	if err != nil || g == nil {
		t.Fatalf("New %+v: %v, %v", s, g, err)
	}
	return g
}

// of is goods with these numbers.
func of(t *testing.T, values ...int) *goods.Goods {
	t.Helper()
	return made(t, withComponents(values...))
}

// wants asks that this one of the named errors is told, and no other one.
func wants(t *testing.T, name string, err, want error) {
	t.Helper()
	leaves := blame.Leaves(err)
	for _, leaf := range leaves {
		if leaf.Number != blame.Number(want) {
			t.Errorf("%s: %v, want %v alone", name, leaves, want)
		}
	}
	if !errors.Is(err, want) {
		t.Errorf("%s: %v %v, want %v", name, err, leaves, want)
	}
}

// wantsNoNumber asks that an error is told, and no number beside it.
func wantsNoNumber(t *testing.T, name string, number int, err, want error) {
	t.Helper()
	wants(t, name, err, want)
	if number != 0 {
		t.Errorf("%s: %d beside the error", name, number)
	}
}

// wantNone asks that there is no number at a place, by Get, and by Set and Add, which are refused.
func wantNone(t *testing.T, name string, g *goods.Goods, i int, want error) {
	t.Helper()
	if n, ok := g.Get(i); n != 0 || ok {
		t.Errorf("%s: Get %d: %d, %v", name, i, n, ok)
	}
	for _, value := range []int{0, 1, -1, math.MinInt, math.MaxInt} {
		n, err := g.Set(i, value)
		wantsNoNumber(t, fmt.Sprintf("%s: Set %d, %d", name, i, value), n, err, want)
		n, err = g.Add(i, value)
		wantsNoNumber(t, fmt.Sprintf("%s: Add %d, %d", name, i, value), n, err, want)
	}
}

// wantAll asks every call that only tells for these numbers, in order, and for how often one was set.
func wantAll(t *testing.T, name string, g *goods.Goods, changes int, values ...int) {
	t.Helper()
	if got := g.All(); !slices.Equal(got, values) {
		t.Errorf("%s: All %v, want %v", name, got, values)
	}
	if got := g.Len(); got != len(values) {
		t.Errorf("%s: Len %d, want %d", name, got, len(values))
	}
	if got := g.Changes(); got != changes {
		t.Errorf("%s: Changes %d, want %d", name, got, changes)
	}
	for i, value := range values {
		if got, ok := g.Get(i); got != value || !ok {
			t.Errorf("%s: Get %d: %d, %v, want %d", name, i, got, ok, value)
		}
		if at, ok := g.Named(resourceName(i)); at != i || !ok {
			t.Errorf("%s: Named %q: %d, %v, want %d", name, resourceName(i), at, ok, i)
		}
	}
	if got, ok := g.Get(-1); got != 0 || ok {
		t.Errorf("%s: Get -1: %d, %v", name, got, ok)
	}
	if got, ok := g.Get(len(values)); got != 0 || ok {
		t.Errorf("%s: Get %d: %d, %v", name, len(values), got, ok)
	}
	if at, ok := g.Named(resourceName(len(values))); at != 0 || ok {
		t.Errorf("%s: Named %q: %d, %v", name, resourceName(len(values)), at, ok)
	}
}

func wantSet(t *testing.T, g *goods.Goods, i, value, was int) {
	t.Helper()
	if got, err := g.Set(i, value); got != was || err != nil {
		t.Errorf("Set %d, %d: %d, %v, want %d", i, value, got, err, was)
	}
}

func wantAdd(t *testing.T, g *goods.Goods, i, by, is int) {
	t.Helper()
	if got, err := g.Add(i, by); got != is || err != nil {
		t.Errorf("Add %d, %d: %d, %v, want %d", i, by, got, err, is)
	}
}

func wantPut(t *testing.T, g *goods.Goods, values ...int) {
	t.Helper()
	if err := g.Put(values...); err != nil {
		t.Errorf("Put %v: %v", values, err)
	}
}

func TestP12_2_Example(t *testing.T) {
	g := made(t, api.Schema{Resources: []api.Resource{{Name: "score", Value: 3}}})
	wantAdd(t, g, 0, 4, 7)
	wantSet(t, g, 0, 1, 7)
	if n, ok := g.Get(0); n != 1 || !ok || g.Changes() != 2 {
		t.Error("behind both:", n, ok, g.Changes())
	}
}

func TestP12_1_EachBeginsWithItsValue(t *testing.T) {
	for _, values := range [][]int{
		{0}, {3}, {-1, 3}, {7, 7, 7}, {math.MinInt, 0, math.MaxInt}, {1, 2, 3, 4, 5, 6, 7, 8}, {0, 0, 0, 0, 0, 0, 0, 0},
	} {
		wantAll(t, fmt.Sprint(values), of(t, values...), 0, values...)
		wantAll(t, fmt.Sprint("no components, ", values), made(t, api.Schema{Resources: resources(values...)}), 0, values...)
	}
}

func TestP12_1_WithoutResources(t *testing.T) {
	for _, s := range []api.Schema{
		{}, {Components: []api.Component{}, Resources: []api.Resource{}}, withComponents(),
	} {
		g := made(t, s)
		wantAll(t, "none", g, 0)
		for _, i := range append([]int{0, 1}, ends...) {
			wantNone(t, "none", g, i, api.ErrNone)
		}
		wantPut(t, g)
		wantPut(t, g, []int{}...)
		wants(t, "Put 0", g.Put(0), api.ErrArg)
		wants(t, "Put 1, 2", g.Put(1, 2), api.ErrArg)
		wantAll(t, "none, behind calls", g, 0)
	}
}

func TestP12_1_AsManyAsCanBe(t *testing.T) {
	var values []int
	for i := range api.MaxResources {
		values = append(values, 10*i-35)
	}
	s := withComponents(values...)
	for i := len(s.Components); i < api.MaxComponents; i++ {
		s.Components = append(s.Components, api.Component{Name: "comp" + string(rune('a'+i)), Width: 1})
	}
	g := made(t, s)
	wantAll(t, "at first", g, 0, values...)
	for i := range values {
		wantSet(t, g, i, i, values[i])
		values[i] = i
		wantAll(t, fmt.Sprint("behind Set ", i), g, i+1, values...)
	}
	wantPut(t, g, 1, 2, 3, 4, 5, 6, 7, 8)
	wantAll(t, "behind Put", g, 16, 1, 2, 3, 4, 5, 6, 7, 8)
}

// wrongSchema is one that can't be, with the leaves of what is wrong with it.
type wrongSchema struct {
	name   string
	s      api.Schema
	leaves []blame.Leaf
}

// wrongSchemas has each leaf that Check tells alone, and several at once.
func wrongSchemas() []wrongSchema {
	component := func(name string, width, behind int) api.Component {
		return api.Component{Name: name, Width: width, Default: [api.MaxWidth]int{3: behind}}
	}
	var many api.Schema
	for i := range api.MaxComponents + 1 {
		many.Components = append(many.Components, component("comp"+string(rune('a'+i)), 1, 0))
	}
	nine := api.Schema{Resources: resources(make([]int, api.MaxResources+1)...)}
	leaf := func(path string, number int) blame.Leaf { return blame.Leaf{Path: path, Number: number} }
	one := func(c ...api.Component) api.Schema {
		return api.Schema{Components: c, Resources: resources(3)}
	}
	named := func(names ...string) api.Schema {
		s := withComponents()
		for _, name := range names {
			s.Resources = append(s.Resources, api.Resource{Name: name, Value: 1})
		}
		return s
	}
	return []wrongSchema{
		{"too many components", many, []blame.Leaf{leaf("components", 4)}},
		{"a component's name", one(component("Pos", 1, 0)), []blame.Leaf{leaf("components/0/name", 10)}},
		{"a component's name twice", one(component("pos", 1, 0), component("pos", 1, 0)), []blame.Leaf{leaf("components/1/name", 9)}},
		{"a width", one(component("pos", 5, 0)), []blame.Leaf{leaf("components/0/width", 1)}},
		{"a default", one(component("pos", 1, 2)), []blame.Leaf{leaf("components/0/default", 1)}},
		{"too many resources", nine, []blame.Leaf{leaf("resources", 4)}},
		{"a resource's name", named("score", "X"), []blame.Leaf{leaf("resources/1/name", 10)}},
		{"a resource's empty name", named(""), []blame.Leaf{leaf("resources/0/name", 10)}},
		{"a resource's name too long", named("abcdefghi"), []blame.Leaf{leaf("resources/0/name", 10)}},
		{"a resource's name twice", named("score", "time", "score"), []blame.Leaf{leaf("resources/2/name", 9)}},
		{"a component's name as a resource's", named("time", "look"), []blame.Leaf{leaf("resources/1/name", 9)}},
		{
			"all at once",
			api.Schema{
				Components: append(slices.Clone(many.Components), component("", 9, 7), component("compa", 2, 8)),
				Resources:  append(slices.Clone(nine.Resources), api.Resource{Name: "9"}, api.Resource{Name: "resa"}),
			},
			[]blame.Leaf{
				leaf("components", 4), leaf("components/17/name", 10), leaf("components/17/width", 1),
				leaf("components/18/name", 9), leaf("components/18/default", 1),
				leaf("resources", 4), leaf("resources/9/name", 10), leaf("resources/10/name", 9),
			},
		},
	}
}

func TestP12_1_NewOfASchemaThatCannotBe(t *testing.T) {
	for _, wrong := range wrongSchemas() {
		g, err := goods.New(wrong.s)
		if g != nil {
			t.Errorf("%s: goods beside the error: %v", wrong.name, g)
		}
		if got := blame.Leaves(err); !slices.Equal(got, wrong.leaves) {
			t.Errorf("%s: %v, want %v", wrong.name, got, wrong.leaves)
		}
		if checked := blame.Leaves(schema.Check(wrong.s)); !slices.Equal(checked, wrong.leaves) {
			t.Errorf("%s: Check tells %v, want %v", wrong.name, checked, wrong.leaves)
		}
		for _, leaf := range wrong.leaves {
			if !errors.Is(err, blame.Of(leaf.Number)) {
				t.Errorf("%s: errors.Is finds no %d", wrong.name, leaf.Number)
			}
		}
	}
}

func TestP12_1_Named(t *testing.T) {
	s := withComponents(7, 8)
	s.Resources = append(s.Resources, api.Resource{Name: "z", Value: 5}, api.Resource{Name: "abcdefgh", Value: 6})
	g := made(t, s)
	for i, r := range s.Resources {
		if at, ok := g.Named(r.Name); at != i || !ok {
			t.Errorf("Named %q: %d, %v, want %d", r.Name, at, ok, i)
		}
	}
	for _, name := range []string{
		"", "pos", "look", "none", "res", "resaa", "resc", "Resa", "RESA", "resa ", " resa", "resa\x00", "resa\xff", "zz", "Z",
		"abcdefg", "abcdefghi", "0", "1", "\x00", "\xff", "é",
	} {
		if at, ok := g.Named(name); at != 0 || ok {
			t.Errorf("Named %q: %d, %v", name, at, ok)
		}
	}
	g.Set(0, 3)
	g.Add(1, 1)
	g.Put(4, 3, 2, 1)
	for i, r := range s.Resources {
		if at, ok := g.Named(r.Name); at != i || !ok {
			t.Errorf("behind changes: Named %q: %d, %v, want %d", r.Name, at, ok, i)
		}
	}
}

func TestP12_2_PlacesWhereThereIsNone(t *testing.T) {
	for many := 1; many <= api.MaxResources; many++ {
		values := make([]int, many)
		for i := range values {
			values[i] = i + 1
		}
		g := of(t, values...)
		for _, i := range append([]int{many, many + 1, -many, 64, 256, 1<<32 + many}, ends...) {
			wantNone(t, fmt.Sprint(many, " numbers"), g, i, api.ErrNone)
		}
		wantAll(t, fmt.Sprint(many, " numbers, behind what was refused"), g, 0, values...)
	}
}

func TestP12_2_Set(t *testing.T) {
	g := of(t, 3, -1, 9)
	wantSet(t, g, 0, 4, 3)
	wantAll(t, "the first", g, 1, 4, -1, 9)
	wantSet(t, g, 2, -5, 9)
	wantAll(t, "the last", g, 2, 4, -1, -5)
	wantSet(t, g, 1, math.MinInt, -1)
	wantSet(t, g, 1, math.MaxInt, math.MinInt)
	wantSet(t, g, 1, 0, math.MaxInt)
	wantAll(t, "both ends", g, 5, 4, 0, -5)
	wantSet(t, g, 1, 0, 0)
	wantAll(t, "what it is already", g, 6, 4, 0, -5)
	wantSet(t, g, 0, 4, 4)
	wantSet(t, g, 0, 3, 4)
	wantSet(t, g, 0, 4, 3)
	wantAll(t, "there and back", g, 9, 4, 0, -5)
}

func TestP12_2_Add(t *testing.T) {
	g := of(t, 3, -1)
	wantAdd(t, g, 0, 4, 7)
	wantAdd(t, g, 0, -9, -2)
	wantAdd(t, g, 1, 1, 0)
	wantAdd(t, g, 1, -1, -1)
	wantAll(t, "both signs", g, 4, -2, -1)
	wantAdd(t, g, 0, 0, -2)
	wantAll(t, "of 0", g, 5, -2, -1)
	wantAdd(t, g, 1, 0, -1)
	wantAll(t, "of 0", g, 6, -2, -1)
}

func TestP12_2_AddBeyondBothEnds(t *testing.T) {
	for _, c := range []struct{ from, by, is int }{
		{math.MaxInt, 1, math.MinInt}, {math.MinInt, -1, math.MaxInt}, {math.MaxInt, math.MaxInt, -2},
		{math.MinInt, math.MinInt, 0}, {-2, math.MinInt, math.MaxInt - 1}, {1, math.MaxInt, math.MinInt},
		{math.MaxInt - 1, 1, math.MaxInt}, {math.MinInt + 1, -1, math.MinInt}, {math.MaxInt, math.MinInt, -1},
		{math.MinInt, math.MaxInt, -1}, {0, math.MinInt, math.MinInt}, {0, math.MaxInt, math.MaxInt},
		{math.MaxInt32, 1, 1 << 31}, {math.MinInt32, -1, -1<<31 - 1}, {1<<32 - 1, 1, 1 << 32},
	} {
		g := of(t, 8, c.from, 9)
		wantAdd(t, g, 1, c.by, c.is)
		wantAll(t, fmt.Sprint(c.from, " and ", c.by), g, 1, 8, c.is, 9)
	}
}

func TestP12_2_Put(t *testing.T) {
	g := of(t, 3, -1, 9)
	wantPut(t, g, 4, 5, 6)
	wantAll(t, "all others", g, 3, 4, 5, 6)
	wantPut(t, g, 4, 5, 6)
	wantAll(t, "those that there are", g, 3, 4, 5, 6)
	wantPut(t, g, 4, 7, 6)
	wantAll(t, "one other", g, 4, 4, 7, 6)
	wantPut(t, g, 0, 7, -6)
	wantAll(t, "the first and the last other", g, 6, 0, 7, -6)
	wantPut(t, g, 7, 0, -6)
	wantAll(t, "two turned about", g, 8, 7, 0, -6)
	wantPut(t, g, math.MinInt, math.MaxInt, -1)
	wantAll(t, "both ends", g, 11, math.MinInt, math.MaxInt, -1)
	wantSet(t, g, 0, 2, math.MinInt)
	wantAdd(t, g, 2, 4, 3)
	wantPut(t, g, 2, 1, 3)
	wantAll(t, "behind Set and Add", g, 14, 2, 1, 3)
}

func TestP12_2_PutOfFewerAndMore(t *testing.T) {
	for many := range api.MaxResources + 1 {
		values := make([]int, many)
		for i := range values {
			values[i] = i + 1
		}
		g := of(t, values...)
		for handed := range 3 * api.MaxResources {
			if handed == many {
				continue
			}
			// What fits is another number than there is, so that a Put of it would be seen.
			others := make([]int, handed)
			for i := range others {
				others[i] = -1 - i
			}
			name := fmt.Sprintf("Put %d of %d", handed, many)
			wants(t, name, g.Put(others...), api.ErrArg)
			wantAll(t, name, g, 0, values...)
			wants(t, name, g.Put(slices.Repeat([]int{1}, handed)...), api.ErrArg)
			wantAll(t, name, g, 0, values...)
		}
		wants(t, "Put of many", g.Put(make([]int, 1<<20)...), api.ErrArg)
		wantAll(t, "Put of many", g, 0, values...)
	}
}

// wantLeaves asks of Put's error each of its leaves' ways, all of them an ErrArg's.
func wantLeaves(t *testing.T, err error, ways ...string) {
	t.Helper()
	var want []blame.Leaf
	for _, way := range ways {
		want = append(want, blame.Leaf{Path: way, Number: blame.Number(api.ErrArg)})
	}
	if got := blame.Leaves(err); !slices.Equal(got, want) {
		t.Errorf("%v, want %v", got, want)
	}
}

func TestP12_2_PutTellsWhatDoesNotFit(t *testing.T) {
	g := of(t, 1, 2, 3)
	wantLeaves(t, g.Put(), "put/0", "put/1", "put/2")
	wantLeaves(t, g.Put(1, 2), "put/2")
	wantLeaves(t, g.Put(1, 2, 3))
	wantLeaves(t, g.Put(1, 2, 3, 4), "put/3")
	wantLeaves(t, g.Put(make([]int, 1000)...), "put/3")
}

func TestP12_2_ChangesBehindWhatWasRefused(t *testing.T) {
	g := of(t, 5, 6)
	wantSet(t, g, 0, 5, 5)
	wantAdd(t, g, 1, 0, 6)
	for _, i := range append([]int{2, 3}, ends...) {
		wantNone(t, "refused", g, i, api.ErrNone)
	}
	wants(t, "Put", g.Put(), api.ErrArg)
	wants(t, "Put 1", g.Put(1), api.ErrArg)
	wants(t, "Put 1, 2, 3", g.Put(1, 2, 3), api.ErrArg)
	wantPut(t, g, 5, 6)
	wantAll(t, "behind what was refused", g, 2, 5, 6)
	wantSet(t, g, 1, 0, 6)
	wantAll(t, "it goes on", g, 3, 5, 0)
}

func TestP12_CallsThatOnlyTellChangeNothing(t *testing.T) {
	g := of(t, 5, 6)
	g.Set(0, 7)
	for range 3 {
		wantAll(t, "told again", g, 1, 7, 6)
	}
}

func TestP12_Nil(t *testing.T) {
	var g *goods.Goods
	for _, i := range append([]int{0, 1, 7, 8}, ends...) {
		wantNone(t, "nil", g, i, api.ErrNil)
	}
	for _, name := range []string{"", "resa", "pos", "\xff"} {
		if at, ok := g.Named(name); at != 0 || ok {
			t.Errorf("nil: Named %q: %d, %v", name, at, ok)
		}
	}
	for _, values := range [][]int{nil, {}, {0}, {1, 2}, make([]int, 9)} {
		wants(t, fmt.Sprint("nil: Put ", values), g.Put(values...), api.ErrNil)
	}
	wantAll(t, "nil", g, 0)
}

func TestP12_AnswersAreNewMemory(t *testing.T) {
	g := of(t, 1, 2, 3)
	first, second := g.All(), g.All()
	for i := range first[:cap(first)] {
		first[:cap(first)][i] = -7
	}
	_ = append(first[:0], 8, 8, 8)
	if !slices.Equal(second, []int{1, 2, 3}) {
		t.Error("two answers share memory:", second)
	}
	wantAll(t, "a row of All's was changed", g, 0, 1, 2, 3)
	wantSet(t, g, 0, 9, 1)
	if !slices.Equal(second, []int{1, 2, 3}) {
		t.Error("a row of All's was changed by Set:", second)
	}
	wantPut(t, g, 4, 5, 6)
	if !slices.Equal(second, []int{1, 2, 3}) {
		t.Error("a row of All's was changed by Put:", second)
	}
}

func TestP12_PutKeepsNoRow(t *testing.T) {
	g := of(t, 1, 2, 3)
	whole := []int{4, 5, 6, 77, 78}
	row := whole[:3]
	wantPut(t, g, row...)
	wantAll(t, "put", g, 3, 4, 5, 6)
	wantSet(t, g, 0, 10, 4)
	wantAdd(t, g, 2, 1, 7)
	wantPut(t, g, 11, 12, 13)
	if !slices.Equal(whole, []int{4, 5, 6, 77, 78}) {
		t.Error("the row that was handed in was changed:", whole)
	}
	clear(whole)
	wantAll(t, "the row was changed", g, 8, 11, 12, 13)
	wantPut(t, g, whole[:3]...)
	clear(whole)
	whole[1] = 5
	wantAll(t, "the row was changed again", g, 11, 0, 0, 0)
}

func TestP12_NewKeepsNoSchema(t *testing.T) {
	s := withComponents(1, 2, 3)
	s.Resources = s.Resources[:2]
	spare := s.Resources[:3][2]
	g := made(t, s)
	wantSet(t, g, 0, 10, 1)
	wantPut(t, g, 20, 30)
	if s.Resources[0] != (api.Resource{Name: "resa", Value: 1}) || s.Resources[1] != (api.Resource{Name: "resb", Value: 2}) {
		t.Error("the schema was changed:", s.Resources)
	}
	if s.Resources[:3][2] != spare {
		t.Error("its spare room was changed:", s.Resources[:3])
	}
	s.Resources[0] = api.Resource{Name: "other", Value: 99}
	s.Resources[1].Value = 98
	s.Components[0].Name = "resa"
	wantAll(t, "the schema was changed", g, 3, 20, 30)
	if at, ok := g.Named("other"); at != 0 || ok {
		t.Error("a name of later:", at, ok)
	}
}

func TestP12_TwoOfOneSchema(t *testing.T) {
	s := withComponents(1, 2)
	g, h := made(t, s), made(t, s)
	wantSet(t, g, 0, 5, 1)
	wantAdd(t, g, 1, 5, 7)
	wantAll(t, "the other one", h, 0, 1, 2)
	wantPut(t, h, 8, 9)
	wantAll(t, "the one", g, 2, 5, 7)
	wantAll(t, "the other one", h, 2, 8, 9)
	wantPut(t, h, g.All()...)
	wantSet(t, g, 0, 0, 5)
	wantAll(t, "the other one", h, 4, 5, 7)
	wantAll(t, "one made later", made(t, s), 0, 1, 2)
}
