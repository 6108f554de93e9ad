package schema_test

import (
	"errors"
	"fmt"
	"math"
	"math/rand"
	"reflect"
	"slices"
	"strings"
	"testing"

	"pasodoble/api"
	"pasodoble/blame"
	"pasodoble/schema"
)

// The errors' numbers that a schema can have.
const (
	argNumber   = 1
	longNumber  = 4
	twiceNumber = 9
	nameNumber  = 10
)

// names are some texts that are names, wrongNames some that are none.
var (
	names      = []string{"a", "z", "pos", "abcdefgh", "zzzzzzzz"}
	wrongNames = []string{
		"", "abcdefghi", strings.Repeat("a", 1000), "A", "Pos", "poS", "`", "{", "a`", "a{", "a1", "1a", "0", "_", "a_b", "a-b",
		" ", " a", "a ", "a\n", "a\x00", "\x00", "\x80", "\xe1", "a\xff", "é", "aé", "ａ", "a/b", "ab.cd", "ab\tcdefg",
	}
)

// widths that can't be.
var wrongWidths = []int{0, -1, 5, 6, -4, 1 << 32, 1<<32 + 1, 256 + 1, math.MinInt, math.MaxInt}

func component(name string, width int, cells ...int) api.Component {
	c := api.Component{Name: name, Width: width}
	copy(c.Default[:], cells)
	return c
}

func of(components ...api.Component) api.Schema { return api.Schema{Components: components} }

func resources(names ...string) []api.Resource {
	var list []api.Resource
	for i, name := range names {
		list = append(list, api.Resource{Name: name, Value: i - 1})
	}
	return list
}

// word is the name of a number, each its own: a letter for the kind, and three for the number.
func word(kind byte, n int) string {
	return string([]byte{kind, 'a' + byte(n/676%26), 'a' + byte(n/26%26), 'a' + byte(n%26)})
}

// many is a schema with so many components and resources, nothing else wrong.
func many(components, resources int) api.Schema {
	var s api.Schema
	for i := range components {
		s.Components = append(s.Components, component(word('c', i), i%4+1))
	}
	for i := range resources {
		s.Resources = append(s.Resources, api.Resource{Name: word('r', i), Value: i})
	}
	return s
}

func leaf(number int, way ...string) blame.Leaf {
	return blame.Leaf{Path: strings.Join(way, "/"), Number: number}
}

// wantCheck asks that all that is wrong with a schema is told, in order, as All puts it together: nil, the one
// at its way, or a Several of each at its own way.
func wantCheck(t *testing.T, name string, s api.Schema, want ...blame.Leaf) {
	t.Helper()
	err := schema.Check(s)
	if got := blame.Leaves(err); !slices.Equal(got, want) {
		t.Errorf("%s: %v, want %v", name, got, want)
		return
	}
	several, isSeveral := err.(*blame.Several)
	one, isOne := err.(*blame.Blame)
	switch {
	case len(want) == 0:
		if err != nil {
			t.Errorf("%s: %#v, want nil", name, err)
		}
	case len(want) == 1:
		if !isOne || one == nil {
			t.Errorf("%s: %T, want a *Blame", name, err)
		}
	default:
		if !isSeveral || len(several.Errs) != len(want) {
			t.Errorf("%s: %T, want a *Several of %d", name, err, len(want))
		}
	}
	for _, l := range want {
		if !errors.Is(err, blame.Of(l.Number)) {
			t.Errorf("%s: errors.Is finds no %d", name, l.Number)
		}
	}
}

func TestP5_1_Example(t *testing.T) {
	wantCheck(t, "the chapter's example", of(component("pos", 2), component("pos", 9)),
		leaf(twiceNumber, "components/1/name"), leaf(argNumber, "components/1/width"))
}

func TestP5_1_NothingWrong(t *testing.T) {
	wantCheck(t, "nothing in it", api.Schema{})
	wantCheck(t, "empty lists", api.Schema{Components: []api.Component{}, Resources: []api.Resource{}})
	wantCheck(t, "one component", of(component("pos", 2, 5, 6)))
	wantCheck(t, "one resource", api.Schema{Resources: resources("score")})
	rolled, shown := component("pos", 2, 5, -6), component("look", 1, math.MinInt)
	rolled.Rollback = true
	wantCheck(t, "both kinds", api.Schema{Components: []api.Component{rolled, shown}, Resources: resources("score", "left")})
	wantCheck(t, "as many as can be", many(16, 8))
	wantCheck(t, "any value of a resource", api.Schema{Resources: []api.Resource{{Name: "a", Value: math.MinInt}, {Name: "b", Value: math.MaxInt}}})
	wantCheck(t, "names of other cases", of(component("a", 1), component("aa", 1), component("b", 1), component("ab", 1)))
}

func TestP5_1_TooMany(t *testing.T) {
	long := func(list string) blame.Leaf { return leaf(longNumber, list) }
	wantCheck(t, "15 and 7", many(15, 7))
	wantCheck(t, "17 components", many(17, 8), long("components"))
	wantCheck(t, "9 resources", many(16, 9), long("resources"))
	wantCheck(t, "17 and 9", many(17, 9), long("components"), long("resources"))
	wantCheck(t, "9 resources alone", many(0, 9), long("resources"))
	wantCheck(t, "17 components alone", many(17, 0), long("components"))
	wantCheck(t, "100 and 50", many(100, 50), long("components"), long("resources"))

	s := many(18, 10)
	s.Components[17] = component(s.Components[0].Name, 5)
	s.Components[16].Default[3] = 1
	s.Resources[8].Name = "Nine"
	s.Resources[9].Name = s.Resources[0].Name
	wantCheck(t, "those too many are asked too", s, long("components"),
		leaf(argNumber, "components/16/default"), leaf(twiceNumber, "components/17/name"), leaf(argNumber, "components/17/width"),
		long("resources"), leaf(nameNumber, "resources/8/name"), leaf(twiceNumber, "resources/9/name"))
}

func TestP5_1_Names(t *testing.T) {
	for _, name := range names {
		wantCheck(t, "component "+name, of(component(name, 1)))
		wantCheck(t, "resource "+name, api.Schema{Resources: resources(name)})
	}
	for _, name := range wrongNames {
		first, next := leaf(nameNumber, "components/0/name"), leaf(nameNumber, "components/1/name")
		wantCheck(t, fmt.Sprintf("component %q", name), of(component(name, 1)), first)
		wantCheck(t, fmt.Sprintf("components %q", name), of(component(name, 1), component(name, 1)), first, next)
		wantCheck(t, fmt.Sprintf("resource %q", name), api.Schema{Resources: resources("ok", name)}, leaf(nameNumber, "resources/1/name"))
		both := api.Schema{Components: []api.Component{component(name, 1)}, Resources: resources(name, name)}
		wantCheck(t, fmt.Sprintf("all %q", name), both, first, leaf(nameNumber, "resources/0/name"), leaf(nameNumber, "resources/1/name"))
	}
}

func TestP5_1_NamesTwice(t *testing.T) {
	a, b := component("a", 1), component("b", 2)
	twice := func(list string, i int) blame.Leaf { return leaf(twiceNumber, list, fmt.Sprint(i), "name") }
	wantCheck(t, "two components", of(a, a), twice("components", 1))
	wantCheck(t, "three components", of(a, b, a, a), twice("components", 2), twice("components", 3))
	wantCheck(t, "two of each", of(a, b, b, a), twice("components", 2), twice("components", 3))
	wantCheck(t, "two resources", api.Schema{Resources: resources("x", "y", "x")}, twice("resources", 2))
	wantCheck(t, "three resources", api.Schema{Resources: resources("x", "x", "x")}, twice("resources", 1), twice("resources", 2))
	wantCheck(t, "a component's and a resource's", api.Schema{Components: []api.Component{a, b}, Resources: resources("x", "b", "b")},
		twice("resources", 1), twice("resources", 2))
	wantCheck(t, "the first component's", api.Schema{Components: []api.Component{a, b}, Resources: resources("a")}, twice("resources", 0))
	wantCheck(t, "one that is wrong otherwise has its name", api.Schema{Components: []api.Component{component("a", 0), a}, Resources: resources("a")},
		leaf(argNumber, "components/0/width"), twice("components", 1), twice("resources", 0))
	s := many(17, 0)
	s.Resources = resources(s.Components[16].Name)
	wantCheck(t, "one that is too many has its name", s, leaf(longNumber, "components"), twice("resources", 0))
}

func TestP5_1_Widths(t *testing.T) {
	for width := 1; width <= 4; width++ {
		wantCheck(t, fmt.Sprint("width ", width), of(component("a", width)))
	}
	for _, width := range wrongWidths {
		wrong := leaf(argNumber, "components/1/width")
		wantCheck(t, fmt.Sprint("width ", width), of(component("a", 1), component("b", width)), wrong)
		wantCheck(t, fmt.Sprint("no default is asked of width ", width), of(component("a", 1), component("b", width, 1, 2, 3, 4)), wrong)
	}
}

func TestP5_1_Defaults(t *testing.T) {
	for width := 1; width <= 4; width++ {
		for cell := range 4 {
			for _, value := range []int{1, -1, 1 << 32, math.MinInt, math.MaxInt} {
				c := component("a", width)
				c.Default[cell] = value
				name := fmt.Sprintf("width %d, cell %d: %d", width, cell, value)
				if cell < width {
					wantCheck(t, name, of(c))
				} else {
					wantCheck(t, name, of(c), leaf(argNumber, "components/0/default"))
				}
			}
		}
	}
	wantCheck(t, "several cells are one thing wrong", of(component("a", 1, 1, 2, 3, 4)), leaf(argNumber, "components/0/default"))
	wantCheck(t, "cells that cancel each other", of(component("a", 1, 0, 1, -1)), leaf(argNumber, "components/0/default"))
}

func TestP5_1_AllInOrder(t *testing.T) {
	s := api.Schema{
		Components: []api.Component{
			component("Pos", 0, 1), component("hp", 1, 1, 2), component("hp", 4, 1, 2, 3, 4), component("hp", 2, 0, 0, 3),
			component("", 3, 0, 0, 0, -1), component("hp", -1), component("ok", 2, 7),
		},
		Resources: resources("ok", "x", "", "x", "toolongname", "hp", "y"),
	}
	wantCheck(t, "all at once", s,
		leaf(nameNumber, "components/0/name"), leaf(argNumber, "components/0/width"),
		leaf(argNumber, "components/1/default"),
		leaf(twiceNumber, "components/2/name"),
		leaf(twiceNumber, "components/3/name"), leaf(argNumber, "components/3/default"),
		leaf(nameNumber, "components/4/name"), leaf(argNumber, "components/4/default"),
		leaf(twiceNumber, "components/5/name"), leaf(argNumber, "components/5/width"),
		leaf(twiceNumber, "resources/0/name"), leaf(nameNumber, "resources/2/name"), leaf(twiceNumber, "resources/3/name"),
		leaf(nameNumber, "resources/4/name"), leaf(twiceNumber, "resources/5/name"))
}

// told is what the chapter's words say of a schema, each name held against all ahead of it.
func told(s api.Schema) []blame.Leaf {
	var list []blame.Leaf
	add := func(wrong bool, number int, way ...any) {
		if wrong {
			path := strings.TrimSuffix(fmt.Sprintln(way...), "\n")
			list = append(list, leaf(number, strings.ReplaceAll(path, " ", "/")))
		}
	}
	var ahead []string
	name := func(kind string, i int, name string) {
		isName := slices.Contains(names, name)
		add(!isName, nameNumber, kind, i, "name")
		add(isName && slices.Contains(ahead, name), twiceNumber, kind, i, "name")
		ahead = append(ahead, name)
	}
	add(len(s.Components) > 16, longNumber, "components")
	for i, c := range s.Components {
		name("components", i, c.Name)
		isWidth := slices.Contains([]int{1, 2, 3, 4}, c.Width)
		add(!isWidth, argNumber, "components", i, "width")
		behind := false
		for cell, value := range c.Default {
			behind = behind || cell >= c.Width && value != 0
		}
		add(isWidth && behind, argNumber, "components", i, "default")
	}
	add(len(s.Resources) > 8, longNumber, "resources")
	for i, r := range s.Resources {
		name("resources", i, r.Name)
	}
	return list
}

// drawn is a schema drawn at random, wrong here and there.
func drawn(r *rand.Rand) api.Schema {
	pick := func(list []string) string { return list[r.Intn(len(list))] }
	name := func() string {
		if r.Intn(4) == 0 {
			return pick(wrongNames)
		}
		return pick(names)
	}
	var s api.Schema
	for range r.Intn(20) {
		c := component(name(), r.Intn(4)+1)
		if r.Intn(6) == 0 {
			c.Width = wrongWidths[r.Intn(len(wrongWidths))]
		}
		if r.Intn(3) == 0 {
			c.Default[r.Intn(4)] = r.Intn(5) - 2
		}
		c.Rollback = r.Intn(2) == 0
		s.Components = append(s.Components, c)
	}
	for range r.Intn(11) {
		s.Resources = append(s.Resources, api.Resource{Name: name(), Value: r.Int()})
	}
	return s
}

func TestP5_1_Drawn(t *testing.T) {
	r := rand.New(rand.NewSource(5))
	for range 5000 {
		s := drawn(r)
		wantCheck(t, fmt.Sprintf("%+v", s), s, told(s)...)
	}
}

func TestP5_1_HangsOnTheSchemaAlone(t *testing.T) {
	s := of(component("a", 1), component("a", 1))
	want := blame.Leaves(schema.Check(s))
	for range 3 {
		if got := blame.Leaves(schema.Check(s)); !slices.Equal(got, want) {
			t.Errorf("%v, and then %v", want, got)
		}
		wantCheck(t, "a name taken in another call", of(component("a", 1)))
	}
}

func TestP5_1_EndsOnManyComponents(t *testing.T) {
	const components = 1 << 17
	s := api.Schema{Components: make([]api.Component, components), Resources: make([]api.Resource, components)}
	for i := range components {
		name := string([]byte{'a' + byte(i>>15&7), 'a' + byte(i>>12&7), 'a' + byte(i>>8&15), 'a' + byte(i>>4&15), 'a' + byte(i&15)})
		s.Components[i], s.Resources[i] = component(name, 1), api.Resource{Name: name}
	}
	leaves := blame.Leaves(schema.Check(s))
	if len(leaves) != components+2 || leaves[0] != leaf(longNumber, "components") || leaves[1] != leaf(longNumber, "resources") {
		t.Fatal(len(leaves), leaves[:min(3, len(leaves))])
	}
	if last := leaves[components+1]; last != leaf(twiceNumber, "resources", fmt.Sprint(components-1), "name") {
		t.Error(last)
	}
}

func TestP5_2_Find(t *testing.T) {
	s := api.Schema{
		Components: []api.Component{component("pos", 2), component("hp", 1), component("pos", 3), component("", 9), component("No", 1), component("both", 1)},
		Resources:  resources("score", "both", "score", "hp", "", "Left"),
	}
	cases := []struct {
		name                string
		component, resource int // -1: there is none
	}{
		{"pos", 0, -1}, {"hp", 1, 3}, {"", 3, 4}, {"No", 4, -1}, {"both", 5, 1}, {"score", -1, 0}, {"Left", -1, 5},
		{"po", -1, -1}, {"poss", -1, -1}, {"Pos", -1, -1}, {"none", -1, -1}, {"\xff", -1, -1}, {strings.Repeat("a", 1000), -1, -1},
	}
	want := func(t *testing.T, call, name string, n int, ok bool, want int) {
		t.Helper()
		if n != max(want, 0) || ok != (want >= 0) {
			t.Errorf("%s %q: %d, %v, want %d", call, name, n, ok, want)
		}
	}
	for _, c := range cases {
		n, ok := schema.Find(s, c.name)
		want(t, "Find", c.name, n, ok, c.component)
		n, ok = schema.Resource(s, c.name)
		want(t, "Resource", c.name, n, ok, c.resource)
		n, ok = schema.Find(api.Schema{Resources: s.Resources}, c.name)
		want(t, "Find of no components", c.name, n, ok, -1)
		n, ok = schema.Resource(api.Schema{Components: s.Components}, c.name)
		want(t, "Resource of no resources", c.name, n, ok, -1)
	}
	s = many(100, 50)
	n, ok := schema.Find(s, word('c', 99))
	want(t, "Find", "the hundredth", n, ok, 99)
	n, ok = schema.Resource(s, word('r', 49))
	want(t, "Resource", "the fiftieth", n, ok, 49)
}

func TestP5_2_RollbackAndShown(t *testing.T) {
	// Each pattern says which components are rolled back, r, and which are only shown, s.
	cases := []struct {
		pattern         string
		rollback, shown api.Mask
	}{
		{"", 0, 0}, {"r", 1, 0}, {"s", 0, 1}, {"rs", 1, 2}, {"sr", 2, 1}, {"rrsrs", 11, 20},
		{strings.Repeat("r", 16), 1<<16 - 1, 0}, {strings.Repeat("s", 16), 0, 1<<16 - 1},
		{strings.Repeat("r", 31), 1<<31 - 1, 0}, {strings.Repeat("r", 32), 1<<32 - 1, 0}, {strings.Repeat("s", 32), 0, 1<<32 - 1},
		{strings.Repeat("s", 31) + "r", 1 << 31, 1<<31 - 1},
		{strings.Repeat("r", 33), 1<<32 - 1, 0}, {strings.Repeat("s", 33), 0, 1<<32 - 1},
		{strings.Repeat("s", 32) + strings.Repeat("r", 40), 0, 1<<32 - 1}, {strings.Repeat("r", 32) + strings.Repeat("s", 40), 1<<32 - 1, 0},
	}
	for _, c := range cases {
		var s api.Schema
		for _, letter := range c.pattern {
			s.Components = append(s.Components, api.Component{Name: "Wrong", Width: -1, Rollback: letter == 'r'})
		}
		s.Resources = resources("x", "y")
		if m := schema.Rollback(s); m != c.rollback {
			t.Errorf("%q: Rollback %b, want %b", c.pattern, m, c.rollback)
		}
		if m := schema.Shown(s); m != c.shown {
			t.Errorf("%q: Shown %b, want %b", c.pattern, m, c.shown)
		}
	}
}

func TestP5_2_New(t *testing.T) {
	s := api.Schema{
		Components: []api.Component{component("pos", 2, 5, 6), component("hp", 1), component("all", 4, math.MinInt, -1, 1, math.MaxInt), component("Wrong", 0, 1, 2, 3, 4)},
		Resources:  resources("x", "y", "z", "u", "v", "w"),
	}
	for _, frame := range []int{math.MinInt, -1, 0, 1, 8, api.MaxFrame, api.MaxFrame + 1, math.MaxInt} {
		for i, c := range s.Components {
			want := api.Part{Comp: i, Values: c.Default, Tick: frame}
			if p, err := schema.New(s, i, frame); p != want || err != nil {
				t.Errorf("New %d, %d: %+v, %v", i, frame, p, err)
			}
		}
		for _, comp := range []int{math.MinInt, math.MinInt + 1, -1 << 32, -2, -1, 4, 5, 1 << 32, 1<<32 + 1, math.MaxInt} {
			if p, err := schema.New(s, comp, frame); p != (api.Part{}) || !errors.Is(err, api.ErrArg) {
				t.Errorf("New %d, %d: %+v, %v", comp, frame, p, err)
			}
		}
	}
	if p, err := schema.New(api.Schema{Resources: s.Resources}, 0, 1); p != (api.Part{}) || !errors.Is(err, api.ErrArg) {
		t.Errorf("New of no components: %+v, %v", p, err)
	}
	if p, err := schema.New(many(40, 0), 39, 1); p != (api.Part{Comp: 39, Tick: 1}) || err != nil {
		t.Errorf("New of the last one of 40: %+v, %v", p, err)
	}
	if p, err := schema.New(many(40, 0), 40, 1); p != (api.Part{}) || !errors.Is(err, api.ErrArg) {
		t.Errorf("New of one too many: %+v, %v", p, err)
	}
}

func TestP5_2_IsName(t *testing.T) {
	for _, name := range names {
		if !schema.IsName(name) {
			t.Errorf("%q is no name", name)
		}
	}
	for _, name := range wrongNames {
		if schema.IsName(name) {
			t.Errorf("%q is a name", name)
		}
	}
	for b := range 256 {
		isLetter := strings.IndexByte("abcdefghijklmnopqrstuvwxyz", byte(b)) >= 0
		for place := range 8 {
			text := []byte("abcdefgh")
			text[place] = byte(b)
			if schema.IsName(string(text)) != isLetter {
				t.Errorf("%q: %v", text, !isLetter)
			}
		}
	}
	for length := range 40 {
		if got, want := schema.IsName(strings.Repeat("m", length)), length >= 1 && length <= 8; got != want {
			t.Errorf("%d letters: %v", length, got)
		}
	}
}

func TestP5_SchemasAreNotChanged(t *testing.T) {
	r := rand.New(rand.NewSource(6))
	for range 200 {
		s := drawn(r)
		s.Components = append(s.Components, component("spare", 9, 1, 2, 3, 4))
		s.Resources = append(s.Resources, api.Resource{Name: "spare", Value: 1})
		whole := api.Schema{Components: slices.Clone(s.Components), Resources: slices.Clone(s.Resources)}
		handed := api.Schema{Components: s.Components[:len(s.Components)-1], Resources: s.Resources[:len(s.Resources)-1]}
		schema.Check(handed)
		schema.Find(handed, "pos")
		schema.Resource(handed, "pos")
		schema.Rollback(handed)
		schema.Shown(handed)
		schema.New(handed, 0, 1)
		if !reflect.DeepEqual(s, whole) {
			t.Fatalf("changed: %+v, was %+v", s, whole)
		}
	}
}
