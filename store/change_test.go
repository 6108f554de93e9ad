package store_test

import (
	"fmt"
	"math"
	"slices"
	"testing"

	"pasodoble/api"
	"pasodoble/store"
)

// without are parts without that of a component.
func without(parts []api.Part, comp int) []api.Part {
	return slices.DeleteFunc(slices.Clone(parts), func(p api.Part) bool { return p.Comp == comp })
}

// crowd are entities with the same set, and the parts that each has.
type crowd struct {
	*store.Store
	list  []api.Entity
	parts [][]api.Part
}

// crowded is a store with so many of a set, and one of another set beside them.
func crowded(t *testing.T, set api.Mask, many int) *crowd {
	t.Helper()
	c := &crowd{Store: made(t, many+2, widths...)}
	for n := range many {
		c.parts = append(c.parts, fulls(widths, set, n))
		c.list = append(c.list, spawned(t, c.Store, c.parts[n]...))
	}
	c.parts = append(c.parts, fulls(widths, set^15, 77))
	c.list = append(c.list, spawned(t, c.Store, c.parts[many]...))
	return c
}

// same asks that all have what they are to have.
func (c *crowd) same(t *testing.T, name string) {
	t.Helper()
	for n, e := range c.list {
		wantHas(t, name, c.Store, e, c.parts[n]...)
	}
	if c.Count() != len(c.list) {
		t.Fatalf("%s: Count %d, want %d", name, c.Count(), len(c.list))
	}
}

// TestP9_3_InsertFromOneTable gives each of those with the same set each component that it hasn't.
func TestP9_3_InsertFromOneTable(t *testing.T) {
	for set := range api.Mask(15) {
		for comp, width := range widths {
			for who := range 4 {
				if set>>comp%2 == 1 {
					continue
				}
				c := crowded(t, set, 4)
				name := fmt.Sprintf("Insert of %d to the %dth with %d", comp, who, set)
				p := full(comp, width, 40)
				if err := c.Insert(c.list[who], p); err != nil {
					t.Fatal(name, err)
				}
				c.parts[who] = append(c.parts[who], p)
				slices.SortFunc(c.parts[who], func(a, b api.Part) int { return a.Comp - b.Comp })
				c.same(t, name)
			}
		}
	}
}

// TestP9_3_RemoveFromOneTable takes each component that it has from each of those with the same set.
func TestP9_3_RemoveFromOneTable(t *testing.T) {
	for set := api.Mask(1); set < 16; set++ {
		for comp, width := range widths {
			for who := range 4 {
				if set>>comp%2 == 0 {
					continue
				}
				c := crowded(t, set, 4)
				name := fmt.Sprintf("Remove of %d from the %dth with %d", comp, who, set)
				p, err := c.Remove(c.list[who], comp)
				wantPart(t, name, p, err, full(comp, width, who))
				c.parts[who] = without(c.parts[who], comp)
				c.same(t, name)
			}
		}
	}
}

func TestP9_3_InsertAndRemoveToSetsThatThereWereAndWerent(t *testing.T) {
	c := crowded(t, 3, 3) // and one with 12
	wantTables(t, "at first", c.Store, 3)
	c.Insert(c.list[0], full(2, 4, 0))
	wantTables(t, "Insert to 7, which there wasn't", c.Store, 4)
	c.Insert(c.list[1], full(2, 4, 1))
	wantTables(t, "Insert to 7, which there is", c.Store, 4)
	c.Remove(c.list[0], 2)
	c.Remove(c.list[1], 2)
	wantTables(t, "Remove to 3, which there is", c.Store, 4)
	c.Insert(c.list[2], full(2, 4, 2))
	wantTables(t, "Insert to 7, which there was", c.Store, 4)
	c.Remove(c.list[2], 0)
	wantTables(t, "Remove to 6, which there wasn't", c.Store, 5)
	c.parts[2] = []api.Part{full(1, 1, 2), full(2, 4, 2)}
	c.same(t, "behind all of them")
	c.Remove(c.list[2], 1)
	c.Remove(c.list[2], 2)
	wantTables(t, "Remove to 4, which there wasn't, and to nothing", c.Store, 6)
	c.parts[2] = nil
	c.same(t, "one has nothing any more")
}

func TestP9_3_ThereAndBack(t *testing.T) {
	s := made(t, 2, repeated(api.MaxComponents)...)
	all := fulls(repeated(api.MaxComponents), 1<<16-1, 5)
	e, other := spawned(t, s), spawned(t, s, all...)
	for n, p := range all {
		if err := s.Insert(e, p); err != nil {
			t.Fatal("Insert", p, err)
		}
		wantHas(t, "one more", s, e, all[:n+1]...)
	}
	for n, p := range all {
		got, err := s.Remove(e, p.Comp)
		wantPart(t, "Remove", got, err, p)
		wantHas(t, "one less", s, e, all[n+1:]...)
		wantHas(t, "the other one", s, other, all...)
	}
	for n := range all {
		p := all[len(all)-1-n]
		if err := s.Insert(e, p); err != nil {
			t.Fatal("Insert", p, err)
		}
		wantHas(t, "from the last one on", s, e, all[len(all)-1-n:]...)
	}
	wantTables(t, "up, down and up", s, 1+16+15)
}

func TestP9_3_InsertOfAnyNumbers(t *testing.T) {
	s := made(t, 1, widths...)
	e := spawned(t, s, full(2, 4, 1))
	for _, tick := range slices.Concat(values, ends) {
		for _, value := range values {
			p := api.Part{Comp: 0, Values: [4]int{value, -value}, Tick: tick}
			if err := s.Insert(e, p); err != nil {
				t.Fatal("Insert", p, err)
			}
			wantHas(t, "any numbers", s, e, p, full(2, 4, 1))
			got, err := s.Remove(e, 0)
			wantPart(t, "Remove", got, err, p)
		}
	}
}

// wantsNothingDone asks for the error of a call, and that it changed nothing.
func wantsNothingDone(t *testing.T, name string, s *store.Store, call func() (api.Part, error), want error) {
	t.Helper()
	before := told(s)
	p, err := call()
	wantsNoPart(t, name, p, err, want)
	wantTold(t, name, s, before)
}

func TestP9_3_InsertErrors(t *testing.T) {
	c := crowded(t, 5, 3)
	insert := func(e api.Entity, p api.Part) func() (api.Part, error) {
		return func() (api.Part, error) { return api.Part{}, c.Insert(e, p) }
	}
	for _, e := range c.list {
		for _, p := range misfits(widths) { // of components that it has, too
			wantsNothingDone(t, fmt.Sprint("Insert ", e, p), c.Store, insert(e, p), api.ErrArg)
		}
	}
	for _, comp := range []int{0, 2} {
		for n := range 3 {
			for _, p := range []api.Part{full(comp, widths[comp], n), full(comp, widths[comp], 9), {Comp: comp}, part(comp, -1)} {
				wantsNothingDone(t, fmt.Sprint("Insert ", n, p), c.Store, insert(c.list[n], p), api.ErrTwice)
			}
		}
	}
	c.same(t, "behind all the errors")
}

func TestP9_3_RemoveErrors(t *testing.T) {
	c := crowded(t, 5, 3)
	for n, e := range c.list {
		none := append(noComps(len(widths)), 1, 3)
		if n == 3 {
			none = append(noComps(len(widths)), 0, 2)
		}
		for _, comp := range none {
			remove := func() (api.Part, error) { return c.Remove(e, comp) }
			wantsNothingDone(t, fmt.Sprint("Remove ", e, comp), c.Store, remove, api.ErrNone)
		}
	}
	e := spawned(t, c.Store)
	for comp := range widths {
		wantsNothingDone(t, "Remove from nothing", c.Store, func() (api.Part, error) { return c.Remove(e, comp) }, api.ErrNone)
	}
	c.Remove(c.list[0], 0)
	wantsNothingDone(t, "Remove once more", c.Store, func() (api.Part, error) { return c.Remove(c.list[0], 0) }, api.ErrNone)
}

func TestP9_3_Put(t *testing.T) {
	for set := api.Mask(1); set < 16; set++ {
		c := crowded(t, set, 3)
		tables := c.Tables()
		for n := range c.list {
			for i, old := range slices.Clone(c.parts[n]) {
				name := fmt.Sprintf("Put of %d to the %dth with %d", old.Comp, n, set)
				p := full(old.Comp, widths[old.Comp], 60+n)
				got, err := c.Put(c.list[n], p)
				wantPart(t, name, got, err, old)
				c.parts[n][i] = p
				c.same(t, name)
				got, err = c.Put(c.list[n], p)
				wantPart(t, name+" again", got, err, p)
			}
		}
		wantTables(t, "Put", c.Store, tables)
	}
}

func TestP9_3_PutOfAnyNumbers(t *testing.T) {
	for comp, width := range widths {
		s := made(t, 1, widths...)
		was := full(comp, width, 1)
		e := spawned(t, s, was)
		for cell := range width {
			for _, value := range values {
				for _, tick := range slices.Concat(values, ends) {
					p := api.Part{Comp: comp, Tick: tick}
					p.Values[cell] = value
					got, err := s.Put(e, p)
					wantPart(t, fmt.Sprint("Put ", p), got, err, was)
					wantHas(t, "any numbers", s, e, p)
					was = p
				}
			}
		}
	}
}

func TestP9_3_PutErrors(t *testing.T) {
	c := crowded(t, 5, 3)
	c.list, c.parts = append(c.list, spawned(t, c.Store)), append(c.parts, nil)
	for n, e := range c.list {
		for _, p := range misfits(widths) { // of components that it hasn't, too
			put := func() (api.Part, error) { return c.Put(e, p) }
			wantsNothingDone(t, fmt.Sprint("Put ", e, p), c.Store, put, api.ErrArg)
		}
		for comp, width := range widths {
			if slices.ContainsFunc(c.parts[n], func(p api.Part) bool { return p.Comp == comp }) {
				continue
			}
			put := func() (api.Part, error) { return c.Put(e, full(comp, width, 1)) }
			wantsNothingDone(t, fmt.Sprint("Put ", e, comp), c.Store, put, api.ErrNone)
			put = func() (api.Part, error) { return c.Put(e, api.Part{Comp: comp}) }
			wantsNothingDone(t, fmt.Sprint("Put of nothing ", e, comp), c.Store, put, api.ErrNone)
		}
	}
	c.same(t, "behind all the errors")
}

func TestP9_3_Set(t *testing.T) {
	for set := api.Mask(1); set < 16; set++ {
		c := crowded(t, set, 3)
		tables := c.Tables()
		for n := range c.list {
			for i, p := range c.parts[n] {
				for cell := range widths[p.Comp] {
					was := c.parts[n][i]
					got, err := c.Set(c.list[n], p.Comp, cell, 7000+cell, -n-cell)
					wantPart(t, fmt.Sprintf("Set of %d, %d of the %dth with %d", p.Comp, cell, n, set), got, err, was)
					c.parts[n][i].Values[cell], c.parts[n][i].Tick = 7000+cell, -n-cell
					c.same(t, "Set")
				}
			}
		}
		wantTables(t, "Set", c.Store, tables)
	}
}

func TestP9_3_SetOfAnyNumbers(t *testing.T) {
	s := made(t, 2, widths...)
	p := full(2, 4, 1)
	e, other := spawned(t, s, p), spawned(t, s, full(2, 4, 2))
	for cell := range 4 {
		for _, value := range slices.Concat(values, ends) {
			for _, frame := range slices.Concat(values, ends) {
				got, err := s.Set(e, 2, cell, value, frame)
				wantPart(t, "Set", got, err, p)
				p.Values[cell], p.Tick = value, frame
			}
			wantHas(t, "any numbers", s, e, p)
		}
	}
	wantHas(t, "the other one", s, other, full(2, 4, 2))
}

func TestP9_3_SetErrors(t *testing.T) {
	c := crowded(t, 5, 3)
	cells := append([]int{0, 1, 2, 3, 4, 5, 16, 256}, ends...)
	for n, e := range c.list {
		for _, comp := range append(noComps(len(widths)), 0, 1, 2, 3) {
			has := slices.ContainsFunc(c.parts[n], func(p api.Part) bool { return p.Comp == comp })
			for _, cell := range cells {
				name := fmt.Sprintf("Set %v, %d, %d", e, comp, cell)
				set := func() (api.Part, error) { return c.Set(e, comp, cell, 5, 5) }
				if !has {
					wantsNothingDone(t, name, c.Store, set, api.ErrNone)
				} else if cell < 0 || cell >= widths[comp] {
					wantsNothingDone(t, name, c.Store, set, api.ErrArg)
				}
			}
		}
	}
	c.same(t, "behind all the errors")
}

func TestP9_4_Example(t *testing.T) {
	s := made(t, 2, 1, 1)
	first, second := spawned(t, s, part(0, 1), part(1, 1)), spawned(t, s, part(0, 2), part(1, 2))
	p, err := s.Remove(first, 1)
	wantPart(t, "Remove", p, err, part(1, 1))
	wantEntities(t, "Match a", s.Match(1, 0), first, second)
	wantEntities(t, "Match a without b", s.Match(1, 2), first)
	wantTables(t, "the example", s, 3)
}

func TestP9_4_GetErrors(t *testing.T) {
	c := crowded(t, 5, 3)
	for n, e := range c.list {
		for _, comp := range append(noComps(len(widths)), 0, 1, 2, 3) {
			if !slices.ContainsFunc(c.parts[n], func(p api.Part) bool { return p.Comp == comp }) {
				get := func() (api.Part, error) { return c.Get(e, comp) }
				wantsNothingDone(t, fmt.Sprint("Get ", e, comp), c.Store, get, api.ErrNone)
			}
		}
	}
}

func TestP9_4_PartsAndMaskOfAllSets(t *testing.T) {
	list := repeated(api.MaxComponents)
	s := made(t, api.MaxEntities, list...)
	for n := range 640 {
		set := api.Mask(n*7919%(1<<16)) ^ 1<<15
		if n >= api.MaxEntities {
			s.Despawn(api.Entity{Index: n % api.MaxEntities, Gen: n / api.MaxEntities})
		}
		parts := fulls(list, set, n)
		slices.Reverse(parts)
		e := spawned(t, s, parts...)
		wantHas(t, fmt.Sprint("of ", set), s, e, fulls(list, set, n)...)
	}
}

// four are entities of a store with the sets 5, 15, 0 and 4, which come by these indices.
func four(t *testing.T) (*store.Store, []api.Entity) {
	s := made(t, 6, widths...)
	var list []api.Entity
	for n, set := range []api.Mask{5, 15, 0, 4} {
		list = append(list, spawned(t, s, fulls(widths, set, n)...))
	}
	return s, list
}

func TestP9_4_Match(t *testing.T) {
	s, e := four(t)
	before := told(s)
	for _, row := range []struct {
		with, without api.Mask
		want          []api.Entity
	}{
		{0, 0, e}, {1, 0, e[:2]}, {4, 0, []api.Entity{e[0], e[1], e[3]}}, {5, 0, e[:2]}, {15, 0, e[1:2]},
		{0, 1, e[2:]}, {0, 4, e[2:3]}, {0, 15, e[2:3]}, {0, 10, []api.Entity{e[0], e[2], e[3]}}, {4, 1, e[3:]},
		{4, 2, []api.Entity{e[0], e[3]}}, {5, 10, e[:1]}, {2, 0, e[1:2]}, {2, 1, nil}, {8, 4, nil}, {1, 4, nil},
	} {
		wantEntities(t, fmt.Sprintf("Match %d, %d", row.with, row.without), s.Match(row.with, row.without), row.want...)
	}
	wantTold(t, "asking", s, before)
}

func TestP9_4_MatchOfSharedNumbers(t *testing.T) {
	s, _ := four(t)
	for with := api.Mask(1); with < 16; with++ {
		for other := api.Mask(1); other < 16; other++ {
			if with&other != 0 {
				wantEntities(t, fmt.Sprintf("Match %d, %d", with, other), s.Match(with, other))
			}
		}
		wantEntities(t, "all numbers without", s.Match(with, allBits))
	}
}

func TestP9_4_MatchOfNoComponents(t *testing.T) {
	s, e := four(t)
	for number := 4; number < 32; number++ {
		m := api.Mask(1) << number
		wantEntities(t, "with none", s.Match(m, 0))
		wantEntities(t, "with one and none", s.Match(m|1, 0))
		wantEntities(t, "without none", s.Match(0, m), e...)
		wantEntities(t, "with one, without none", s.Match(1, m), e[:2]...)
		wantEntities(t, "with one, without one and none", s.Match(1, m|2), e[0])
		wantEntities(t, "with and without none", s.Match(m, m))
	}
	wantEntities(t, "all numbers", s.Match(allBits, 0))
	wantEntities(t, "without all numbers", s.Match(0, allBits), e[2])
	wantEntities(t, "all numbers, and without them", s.Match(allBits, allBits))
}

func TestP9_4_MatchOfSetsThatNothingHas(t *testing.T) {
	s, e := four(t)
	s.Despawn(e[1])
	wantEntities(t, "a set that was had", s.Match(15, 0))
	wantEntities(t, "a component that was had", s.Match(2, 0))
	s.Remove(e[0], 0)
	wantEntities(t, "and another one", s.Match(1, 0))
	s.Despawn(e[0])
	s.Despawn(e[3])
	wantEntities(t, "the empty set alone", s.Match(0, 0), e[2])
	s.Despawn(e[2])
	wantEntities(t, "nobody", s.Match(0, 0))
}

func TestP9_4_Changed(t *testing.T) {
	s := made(t, 6, widths...)
	var e []api.Entity
	for _, tick := range []int{5, -3, 8, 5, math.MaxInt, math.MinInt} {
		e = append(e, spawned(t, s, api.Part{Comp: 1, Tick: tick}, api.Part{Comp: 0, Tick: -tick}))
	}
	for _, row := range []struct {
		frame int
		want  []api.Entity
	}{
		{math.MinInt, e}, {math.MinInt + 1, e[:5]}, {-4, e[:5]}, {-3, e[:5]}, {-2, []api.Entity{e[0], e[2], e[3], e[4]}},
		{0, []api.Entity{e[0], e[2], e[3], e[4]}}, {5, []api.Entity{e[0], e[2], e[3], e[4]}}, {6, []api.Entity{e[2], e[4]}},
		{8, []api.Entity{e[2], e[4]}}, {9, e[4:5]}, {math.MaxInt - 1, e[4:5]}, {math.MaxInt, e[4:5]},
	} {
		wantEntities(t, fmt.Sprint("Changed 1, ", row.frame), s.Changed(1, row.frame), row.want...)
	}
	wantEntities(t, "another component", s.Changed(0, 0), e[1])
	wantEntities(t, "another component", s.Changed(0, -5), e[0], e[1], e[3])
}

func TestP9_4_ChangedGoesWithTheChanges(t *testing.T) {
	s, e := four(t)
	wantEntities(t, "at first", s.Changed(2, 1001), e[1], e[3])
	s.Set(e[0], 2, 3, 0, 1001)
	wantEntities(t, "Set", s.Changed(2, 1001), e[0], e[1], e[3])
	s.Put(e[1], api.Part{Comp: 2, Tick: 1000})
	wantEntities(t, "Put", s.Changed(2, 1001), e[0], e[3])
	s.Insert(e[2], api.Part{Comp: 2, Tick: 2000})
	wantEntities(t, "Insert", s.Changed(2, 1001), e[0], e[2], e[3])
	s.Insert(e[3], api.Part{Comp: 0, Tick: 1})
	s.Remove(e[0], 0)
	wantEntities(t, "what is done to another component", s.Changed(2, 1001), e[0], e[2], e[3])
	s.Remove(e[3], 2)
	wantEntities(t, "Remove", s.Changed(2, 1001), e[0], e[2])
	s.Despawn(e[0])
	wantEntities(t, "Despawn", s.Changed(2, 1001), e[2])
	wantEntities(t, "in any frame", s.Changed(2, math.MinInt), e[1], e[2])
}

func TestP9_4_ChangedOfNoComponent(t *testing.T) {
	s, e := four(t)
	s.Despawn(e[1])
	before := told(s)
	for _, comp := range append(noComps(len(widths)), 1, 3) {
		for _, frame := range slices.Concat(values, ends) {
			wantEntities(t, fmt.Sprintf("Changed %d, %d", comp, frame), s.Changed(comp, frame))
		}
	}
	wantTold(t, "asking", s, before)
	empty := made(t, 1)
	spawned(t, empty)
	wantEntities(t, "a schema of nothing", empty.Changed(0, math.MinInt))
}

// TestP9_4_ByRisingIndices lets entities come and go so that they stand in their tables in whatever order.
func TestP9_4_ByRisingIndices(t *testing.T) {
	s := made(t, api.MaxEntities, widths...)
	var list []api.Entity
	for n := range api.MaxEntities {
		list = append(list, spawned(t, s, fulls(widths, api.Mask(n*5%16), n)...))
	}
	for n := range 400 {
		i := n * 37 % api.MaxEntities
		switch e, comp := list[i], n%4; {
		case n%5 == 0:
			j := (i + 11) % api.MaxEntities
			s.Despawn(e)
			s.Despawn(list[j])
			list[j] = spawned(t, s, fulls(widths, api.Mask(n%16), n)...) // what was freed last is given first
			list[i] = spawned(t, s, fulls(widths, api.Mask(n/16%16), n)...)
		case s.Insert(e, full(comp, widths[comp], n)) != nil:
			s.Remove(e, comp)
		}
		for set := range api.Mask(16) {
			wantRises(t, fmt.Sprint("Match ", set), s.Match(set, 0))
			wantRises(t, fmt.Sprint("Match without ", set), s.Match(0, set))
		}
		for comp := range widths {
			wantRises(t, fmt.Sprint("Changed ", comp), s.Changed(comp, 1100))
			if got, want := s.Changed(comp, math.MinInt), s.Match(1<<comp, 0); !slices.Equal(got, want) {
				t.Fatalf("changed in any frame: %v, want all that have it, %v", got, want)
			}
		}
		wantEntities(t, "all of them", s.Match(0, 0), list...)
	}
}

func wantRises(t *testing.T, name string, list []api.Entity) {
	t.Helper()
	for i := 1; i < len(list); i++ {
		if list[i].Index <= list[i-1].Index {
			t.Fatalf("%s doesn't rise: %v", name, list)
		}
	}
}
