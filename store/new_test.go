package store_test

import (
	"fmt"
	"slices"
	"testing"

	"pasodoble/api"
	"pasodoble/blame"
	"pasodoble/schema"
	"pasodoble/store"
)

// wrongSchemas are schemas that can't be: with each thing wrong, and with several.
func wrongSchemas() map[string]api.Schema {
	components := func(list ...api.Component) api.Schema { return api.Schema{Components: list} }
	resources := func(names ...string) api.Schema {
		s := schemaOf(1)
		for _, name := range names {
			s.Resources = append(s.Resources, api.Resource{Name: name})
		}
		return s
	}
	return map[string]api.Schema{
		"a component of nothing":    components(api.Component{}),
		"no name":                   components(api.Component{Width: 1}),
		"a long name":               components(api.Component{Name: "abcdefghi", Width: 1}),
		"a name of other letters":   components(api.Component{Name: "Pos", Width: 1}),
		"a name twice":              components(api.Component{Name: "pos", Width: 1}, api.Component{Name: "pos", Width: 2}),
		"no width":                  components(api.Component{Name: "pos"}),
		"a width below 0":           components(api.Component{Name: "pos", Width: -1}),
		"a width above the most":    components(api.Component{Name: "pos", Width: api.MaxWidth + 1}),
		"a default behind":          components(api.Component{Name: "pos", Width: 3, Default: [4]int{0, 0, 0, 1}}),
		"a component too many":      schemaOf(repeated(api.MaxComponents + 1)...),
		"many components too many":  schemaOf(repeated(26)...),
		"a resource too many":       resources("a", "b", "d", "e", "f", "g", "h", "i"),
		"a resource without a name": resources(""),
		"a resource twice":          resources("score"),
		"a resource as a component": resources("ca"),
		"all of it": {
			Components: append(schemaOf(repeated(20)...).Components,
				api.Component{Name: "ca", Width: 9}, api.Component{Name: "-", Width: 2, Default: [4]int{1, 2, 3, 4}}),
			Resources: append(resources("a", "b", "d", "e", "f", "g", "h", "i").Resources, api.Resource{Name: "cb"}, api.Resource{}),
		},
	}
}

// wantsChecks asks that New tells just what layer 5's Check tells, by the ways that it tells.
func wantsChecks(t *testing.T, name string, s api.Schema, most int) {
	t.Helper()
	made, err := store.New(s, most)
	if want := blame.Leaves(schema.Check(s)); len(want) == 0 || !slices.Equal(blame.Leaves(err), want) {
		t.Errorf("New of %s, %d: %v, want %v", name, most, blame.Leaves(err), want)
	}
	if made != nil {
		t.Errorf("New of %s, %d: a store beside the error", name, most)
	}
}

func TestP9_1_NewOfASchemaThatCantBe(t *testing.T) {
	for name, s := range wrongSchemas() {
		for _, most := range []int{0, 1, 3, api.MaxEntities} {
			wantsChecks(t, name, s, most)
		}
	}
}

func TestP9_1_NewTellsASchemaAheadOfPlaces(t *testing.T) {
	for name, s := range wrongSchemas() {
		for _, most := range append([]int{65, 66, 256}, ends...) {
			wantsChecks(t, name, s, most)
		}
	}
}

func TestP9_1_NewOfPlacesThatCantBe(t *testing.T) {
	for _, list := range [][]int{nil, {1}, widths, repeated(api.MaxComponents)} {
		for _, most := range append([]int{65, 66, 127, 128, 256, 257, 1 << 16, 1<<16 + 1}, ends...) {
			s, err := store.New(schemaOf(list...), most)
			wants(t, fmt.Sprintf("New %v, %d", list, most), err, api.ErrArg)
			if s != nil {
				t.Errorf("New %v, %d: a store beside the error", list, most)
			}
		}
	}
}

func TestP9_1_NewOfEachNumberOfPlaces(t *testing.T) {
	for most := 0; most <= api.MaxEntities; most++ {
		s := made(t, most, widths...)
		if s.Count() != 0 || s.Tables() != 1 || len(s.Match(0, 0)) != 0 || s.Alive(api.Entity{}) || s.Alive(api.Entity{Gen: 1}) {
			t.Errorf("New %d: %s", most, told(s))
		}
		for index := range most {
			if e := spawned(t, s, part(0, index)); e != (api.Entity{Index: index, Gen: 1}) || s.Count() != index+1 {
				t.Fatalf("New %d: %v is the %dth of %d", most, e, index, s.Count())
			}
		}
		before := told(s)
		e, err := s.Spawn()
		wantsNoEntity(t, fmt.Sprintf("one more than %d", most), e, err, api.ErrFull)
		wantTold(t, fmt.Sprintf("one more than %d", most), s, before)
	}
}

func TestP9_1_NewOfEachNumberOfComponents(t *testing.T) {
	for many := 0; many <= api.MaxComponents; many++ {
		for first := 1; first <= api.MaxWidth; first++ {
			list := repeated(many + first - 1)[first-1:]
			s := made(t, 2, list...)
			wantTables(t, "at first", s, 1)
			all := api.Mask(1)<<many - 1
			e := spawned(t, s, fulls(list, all, 1)...)
			wantHas(t, "all of them", s, e, fulls(list, all, 1)...)
			for _, p := range misfits(list) {
				e, err := s.Spawn(p)
				wantsNoEntity(t, fmt.Sprintf("Spawn %v of %v", p, list), e, err, api.ErrArg)
			}
		}
	}
}

func TestP9_1_NewOfASchemaWithoutResourcesOrWithAll(t *testing.T) {
	s := schemaOf(1)
	s.Resources = nil
	if _, err := store.New(s, 1); err != nil {
		t.Error("without resources:", err)
	}
	for i := range api.MaxResources {
		s.Resources = append(s.Resources, api.Resource{Name: string(rune('a' + i)), Value: -i})
	}
	if _, err := store.New(s, 1); err != nil {
		t.Error("with all:", err)
	}
}

func TestP9_1_NewKeepsNoSchema(t *testing.T) {
	sc := schemaOf(widths...)
	kept := slices.Clone(sc.Components)
	s, err := store.New(sc, 3)
	if err != nil || !slices.Equal(sc.Components, kept) {
		t.Fatal("New changes its schema:", sc, err)
	}
	for i := range sc.Components {
		sc.Components[i] = api.Component{Name: "x", Width: 1 + i%4}
	}
	e := spawned(t, s, fulls(widths, 15, 1)...)
	wantHas(t, "another schema", s, e, fulls(widths, 15, 1)...)
	for _, p := range misfits(widths) {
		_, err := s.Spawn(p)
		wants(t, fmt.Sprint("another schema: Spawn ", p), err, api.ErrArg)
	}
}

func TestP9_1_EachNewIsAnotherOne(t *testing.T) {
	a, b := made(t, 3, widths...), made(t, 3, widths...)
	first := told(b)
	e := spawned(t, a, part(0, 1))
	wantTold(t, "Spawn in another one", b, first)
	spawned(t, b, part(1, 2))
	wantHas(t, "Spawn in another one", a, e, part(0, 1))
	if a.Count() != 1 || b.Count() != 1 || a.Tables() != 2 || b.Tables() != 2 {
		t.Error(told(a), told(b))
	}
}

func TestP9_1_AliveAndCount(t *testing.T) {
	s := made(t, 4, widths...)
	var list []api.Entity
	for n := range 4 {
		list = append(list, spawned(t, s, fulls(widths, api.Mask(n), n)...))
		if s.Count() != n+1 {
			t.Errorf("Count %d behind %d", s.Count(), n+1)
		}
	}
	for i, n := range []int{2, 0, 3, 1} {
		s.Despawn(list[n])
		if s.Alive(list[n]) || s.Count() != 3-i {
			t.Errorf("%v is gone: alive %v, Count %d", list[n], s.Alive(list[n]), s.Count())
		}
		for _, m := range []int{2, 0, 3, 1}[i+1:] {
			if !s.Alive(list[m]) {
				t.Errorf("%v isn't alive", list[m])
			}
		}
	}
}

func TestP9_1_Tables(t *testing.T) {
	s := made(t, 4, widths...)
	wantTables(t, "at first", s, 1)
	a := spawned(t, s)
	wantTables(t, "the empty set", s, 1)
	b := spawned(t, s, part(2, 1), part(0, 1), part(1, 1))
	wantTables(t, "those between aren't had", s, 2)
	c := spawned(t, s, part(1, 2), part(2, 2), part(0, 2))
	wantTables(t, "a set that there is, in another order", s, 2)
	s.Insert(a, part(0, 3))
	wantTables(t, "Insert to a new one", s, 3)
	s.Insert(a, part(1, 3))
	wantTables(t, "Insert to another new one", s, 4)
	s.Insert(a, part(2, 3))
	wantTables(t, "Insert to one that there is", s, 4)
	s.Remove(a, 2)
	wantTables(t, "Remove to one that there was", s, 4)
	s.Remove(b, 0)
	wantTables(t, "Remove to a new one", s, 5)
	s.Put(b, part(1, 9))
	s.Set(b, 2, 3, 9, 9)
	wantTables(t, "Put and Set", s, 5)
	for _, e := range []api.Entity{a, b, c} {
		s.Despawn(e)
		wantTables(t, "sets that were had stay", s, 5)
	}
	for i, set := range []api.Mask{0, 1, 3, 7, 6, 5} {
		e := spawned(t, s, fulls(widths, set, 1)...)
		if want := []int{5, 5, 5, 5, 5, 6}[i]; s.Tables() != want {
			t.Errorf("a set that was had again, %d: Tables %d, want %d", set, s.Tables(), want)
		}
		s.Despawn(e)
	}
	s.Match(8, 0)
	s.Changed(3, 0)
	wantTables(t, "asking", s, 6)
}

// TestP9_1_TablesOfAllSets goes through all sets of 12 components, a component more or less at a time.
func TestP9_1_TablesOfAllSets(t *testing.T) {
	const many = 12
	list := repeated(many)
	s := made(t, 1, list...)
	e := spawned(t, s)
	var set api.Mask
	for n := 1; n < 1<<many; n++ {
		next := api.Mask(n ^ n>>1)
		comp := schema.List(set ^ next)[0]
		if schema.Has(next, comp) {
			s.Insert(e, full(comp, list[comp], comp))
		} else {
			s.Remove(e, comp)
		}
		set = next
		if m, err := s.Mask(e); m != set || err != nil || s.Tables() != n+1 {
			t.Fatalf("the %dth set: %d, %v, want %d; Tables %d", n, m, err, set, s.Tables())
		}
	}
	var want []api.Part
	for _, comp := range schema.List(set) {
		want = append(want, full(comp, list[comp], comp))
	}
	wantHas(t, "behind all sets", s, e, want...)
}

func TestP9_1_NilStore(t *testing.T) {
	var s *store.Store
	if s.Count() != 0 || s.Tables() != 0 {
		t.Error("Count", s.Count(), "Tables", s.Tables())
	}
	for _, m := range []api.Mask{0, 1, 1 << 16, 1 << 31, allBits} {
		wantEntities(t, "Match", s.Match(m, 0))
		wantEntities(t, "Match", s.Match(0, m))
	}
	for _, parts := range [][]api.Part{nil, {}, {part(0, 1)}, {part(0, 1), part(0, 2)}, misfits(widths)} {
		e, err := s.Spawn(parts...)
		wantsNoEntity(t, "Spawn", e, err, api.ErrNil)
	}
	for _, x := range append(ends, 0, 1, 64) {
		e := api.Entity{Index: x, Gen: 1}
		if s.Alive(e) || s.Alive(api.Entity{Gen: x}) {
			t.Error("Alive", e)
		}
		parts, err := s.Despawn(e)
		wantsNoParts(t, "Despawn", parts, err, api.ErrNil)
		parts, err = s.Parts(e)
		wantsNoParts(t, "Parts", parts, err, api.ErrNil)
		m, err := s.Mask(e)
		wantsNoPart(t, "Mask", api.Part{Comp: int(m)}, err, api.ErrNil)
		wants(t, "Insert", s.Insert(e, part(x, x)), api.ErrNil)
		p, err := s.Remove(e, x)
		wantsNoPart(t, "Remove", p, err, api.ErrNil)
		p, err = s.Put(e, part(x, x))
		wantsNoPart(t, "Put", p, err, api.ErrNil)
		p, err = s.Set(e, x, x, x, x)
		wantsNoPart(t, "Set", p, err, api.ErrNil)
		p, err = s.Get(e, x)
		wantsNoPart(t, "Get", p, err, api.ErrNil)
		wantEntities(t, "Changed", s.Changed(x, x))
		wantEntities(t, "Changed", s.Changed(0, x))
	}
}
