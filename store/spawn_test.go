package store_test

import (
	"fmt"
	"math"
	"slices"
	"testing"

	"pasodoble/api"
	"pasodoble/roll"
	"pasodoble/store"
)

func TestP9_2_Spawn(t *testing.T) {
	s := made(t, 16, widths...)
	var list []api.Entity
	for set := range api.Mask(16) {
		e := spawned(t, s, fulls(widths, set, int(set))...)
		if e != (api.Entity{Index: int(set), Gen: 1}) {
			t.Errorf("Spawn of %d: %v", set, e)
		}
		list = append(list, e)
		for other, e := range list {
			wantHas(t, fmt.Sprint("behind Spawn of ", set), s, e, fulls(widths, api.Mask(other), other)...)
		}
	}
	wantTables(t, "all sets of 4", s, 16)
}

func TestP9_2_SpawnInAnyOrderOfParts(t *testing.T) {
	want := fulls(widths, 15, 3)
	for _, order := range [][4]int{{0, 1, 2, 3}, {3, 2, 1, 0}, {2, 0, 3, 1}, {1, 3, 0, 2}, {3, 0, 1, 2}} {
		s := made(t, 2, widths...)
		spawned(t, s, fulls(widths, 15, 1)...)
		e := spawned(t, s, want[order[0]], want[order[1]], want[order[2]], want[order[3]])
		wantHas(t, fmt.Sprint(order), s, e, want...)
		got, err := s.Despawn(e)
		wantParts(t, fmt.Sprint(order, ": Despawn"), got, err, want...)
	}
}

func TestP9_2_SpawnOfAnyNumbers(t *testing.T) {
	for comp, width := range widths {
		for cell := range width {
			for _, value := range values {
				s := made(t, len(values)+len(ends), widths...)
				for _, tick := range slices.Concat(values, ends) {
					p := api.Part{Comp: comp, Tick: tick}
					p.Values[cell] = value
					wantHas(t, "any numbers", s, spawned(t, s, p), p)
				}
			}
		}
	}
}

func TestP9_2_SpawnOfWhatDoesntFit(t *testing.T) {
	s := made(t, 3, widths...)
	spawned(t, s, fulls(widths, 5, 1)...)
	before := told(s)
	for _, p := range misfits(widths) {
		rows := [][]api.Part{
			{p}, {p, full(0, 2, 1)}, {full(0, 2, 1), p}, {full(0, 2, 1), p, full(3, 3, 1)}, {p, p}, // alone and among others
			{full(0, 2, 1), full(0, 2, 1), p}, {p, full(0, 2, 1), full(0, 2, 1)}, {full(1, 1, 1), p, full(1, 1, 2)}, // and ErrTwice
		}
		for _, parts := range rows {
			e, err := s.Spawn(parts...)
			wantsNoEntity(t, fmt.Sprint("Spawn ", parts), e, err, api.ErrArg)
		}
	}
	wantTold(t, "behind all the errors", s, before)
	if e := spawned(t, s); e != (api.Entity{Index: 1, Gen: 1}) {
		t.Error("the next one:", e)
	}
}

func TestP9_2_SpawnOfOneCompTwice(t *testing.T) {
	s := made(t, 3, widths...)
	spawned(t, s, fulls(widths, 5, 1)...)
	before := told(s)
	for comp, width := range widths {
		p, q, all := full(comp, width, 1), full(comp, width, 2), fulls(widths, 15, 3)
		rows := [][]api.Part{
			{p, p}, {p, q}, {q, p, q}, append(slices.Clone(all), p), append([]api.Part{p}, all...), append(slices.Clone(all), all...),
			slices.Repeat([]api.Part{q}, 40), {{Comp: comp}, {Comp: comp}},
		}
		for _, parts := range rows {
			e, err := s.Spawn(parts...)
			wantsNoEntity(t, fmt.Sprint("Spawn ", parts), e, err, api.ErrTwice)
		}
	}
	wantTold(t, "behind all the errors", s, before)
	if e := spawned(t, s); e != (api.Entity{Index: 1, Gen: 1}) {
		t.Error("the next one:", e)
	}
}

func TestP9_2_SpawnOfNoComponents(t *testing.T) {
	s := made(t, 2)
	e := spawned(t, s)
	wantHas(t, "of no components", s, e)
	for _, p := range misfits(nil) {
		e, err := s.Spawn(p)
		wantsNoEntity(t, fmt.Sprint("Spawn ", p), e, err, api.ErrArg)
		e, err = s.Spawn(p, p)
		wantsNoEntity(t, fmt.Sprint("Spawn twice ", p), e, err, api.ErrArg)
	}
	got, err := s.Despawn(e)
	wantParts(t, "Despawn", got, err)
	wantTables(t, "the empty one alone", s, 1)
}

func TestP9_2_SpawnInAFullStore(t *testing.T) {
	for _, most := range []int{0, 1, 2, api.MaxEntities} {
		s := made(t, most, widths...)
		for n := range most {
			spawned(t, s, fulls(widths, api.Mask(n%8), n)...)
		}
		before := told(s)
		for _, set := range []api.Mask{0, 1, 8, 15} {
			e, err := s.Spawn(fulls(widths, set, 1)...)
			wantsNoEntity(t, "a full store", e, err, api.ErrFull)
		}
		e, err := s.Spawn(part(9, 1))
		wantsNoEntity(t, "a full store, and one that doesn't fit", e, err, api.ErrArg)
		e, err = s.Spawn(part(1, 1), part(1, 1))
		wantsNoEntity(t, "a full store, and one Comp twice", e, err, api.ErrTwice)
		e, err = s.Spawn(part(1, 1), part(1, 1), part(-1, 1))
		wantsNoEntity(t, "a full store, and all else", e, err, api.ErrArg)
		wantTold(t, "behind all the errors", s, before)
	}
}

func TestP9_2_RoomAgain(t *testing.T) {
	s := made(t, 3, widths...)
	var list []api.Entity
	for n := range 3 {
		list = append(list, spawned(t, s, fulls(widths, 3, n)...))
	}
	for round := range 5 {
		n := round % 3
		s.Spawn(part(3, 1))
		got, err := s.Despawn(list[n])
		wantParts(t, "Despawn", got, err, fulls(widths, 3, n+round/3*10)...)
		again := spawned(t, s, fulls(widths, 3, n+(round/3+1)*10)...)
		if want := (api.Entity{Index: list[n].Index, Gen: list[n].Gen + 1}); again != want {
			t.Fatalf("room again: %v, want %v", again, want)
		}
		if s.Alive(list[n]) {
			t.Errorf("%v is alive again", list[n])
		}
		list[n] = again
		e, err := s.Spawn()
		wantsNoEntity(t, "full again", e, err, api.ErrFull)
	}
	wantTables(t, "one set", s, 2)
}

// TestP9_2_GivesAsARollDoes holds the entities against those of a roll by itself.
func TestP9_2_GivesAsARollDoes(t *testing.T) {
	s := made(t, 7, widths...)
	r, _ := roll.New(7)
	var list []api.Entity
	for n := range 500 {
		if n*n%7 < 4 || len(list) == 0 {
			want, wantErr := r.Take()
			e, err := s.Spawn(fulls(widths, api.Mask(n%16), n)...)
			if e != want || (err == nil) != (wantErr == nil) {
				t.Fatalf("Spawn %d: %v, %v, want %v, %v", n, e, err, want, wantErr)
			}
			if err == nil {
				list = append(list, e)
			}
			continue
		}
		i := n * 31 % len(list)
		if _, err := s.Despawn(list[i]); err != nil || r.Free(list[i]) != nil {
			t.Fatal("Despawn", list[i], err)
		}
		list = slices.Delete(list, i, i+1)
		wantEntities(t, "all", s.Match(0, 0), r.List()...)
	}
}

// TestP9_2_DespawnFromOneTable takes each of those with the same set, and asks what the others have.
func TestP9_2_DespawnFromOneTable(t *testing.T) {
	for many := 1; many <= 6; many++ {
		for gone := range many {
			for _, set := range []api.Mask{0, 1, 10, 15} {
				s := made(t, many+1, widths...)
				var list []api.Entity
				for n := range many {
					list = append(list, spawned(t, s, fulls(widths, set, n)...))
				}
				other := spawned(t, s, fulls(widths, 6, 99)...)
				name := fmt.Sprintf("the %dth of %d with %d", gone, many, set)
				got, err := s.Despawn(list[gone])
				wantParts(t, name, got, err, fulls(widths, set, gone)...)
				wantsNoOne(t, name, s, list[gone])
				for n, e := range list {
					if n != gone {
						wantHas(t, name, s, e, fulls(widths, set, n)...)
					}
				}
				wantHas(t, name, s, other, fulls(widths, 6, 99)...)
				wantEntities(t, name, s.Match(set, ^set), slices.Delete(slices.Clone(list), gone, gone+1)...)
				e := spawned(t, s, fulls(widths, set, 50)...)
				wantHas(t, name+", and in its place", s, e, fulls(widths, set, 50)...)
				wantsNoOne(t, name, s, list[gone])
			}
		}
	}
}

func TestP9_2_DespawnOfAllInAnyOrder(t *testing.T) {
	for _, order := range [][]int{{0, 1, 2, 3}, {3, 2, 1, 0}, {1, 0, 3, 2}, {2, 3, 0, 1}, {1, 3, 2, 0}} {
		s := made(t, 4, widths...)
		var list []api.Entity
		for n := range 4 {
			list = append(list, spawned(t, s, fulls(widths, 9, n)...))
		}
		for i, n := range order {
			got, err := s.Despawn(list[n])
			wantParts(t, fmt.Sprint(order, n), got, err, fulls(widths, 9, n)...)
			for _, left := range order[i+1:] {
				wantHas(t, fmt.Sprint(order, n), s, list[left], fulls(widths, 9, left)...)
			}
		}
		if s.Count() != 0 || len(s.Match(0, 0)) != 0 || len(s.Changed(0, math.MinInt)) != 0 || s.Tables() != 2 {
			t.Errorf("%v: somebody is left: %s", order, told(s))
		}
	}
}

// wantsNoOne asks that each call of an entity that isn't there tells so, ahead of all else that is wrong, and that
// nothing changes by it.
func wantsNoOne(t *testing.T, name string, s *store.Store, e api.Entity) {
	t.Helper()
	before := told(s)
	name = fmt.Sprint(name, ": ", e)
	if s.Alive(e) {
		t.Errorf("%s is alive", name)
	}
	parts, err := s.Despawn(e)
	wantsNoParts(t, name+": Despawn", parts, err, api.ErrDead)
	parts, err = s.Parts(e)
	wantsNoParts(t, name+": Parts", parts, err, api.ErrDead)
	m, err := s.Mask(e)
	wantsNoPart(t, name+": Mask", api.Part{Comp: int(m)}, err, api.ErrDead)
	for _, comp := range []int{0, 1, 3, 4, 16, -1, 1 << 32, math.MinInt, math.MaxInt} {
		wants(t, name+": Insert", s.Insert(e, part(comp, 1)), api.ErrDead)
		wants(t, name+": Insert of what doesn't fit", s.Insert(e, api.Part{Comp: comp, Values: [4]int{1, 2, 3, 4}}), api.ErrDead)
		p, err := s.Put(e, part(comp, 1))
		wantsNoPart(t, name+": Put", p, err, api.ErrDead)
		p, err = s.Put(e, api.Part{Comp: comp, Values: [4]int{1, 2, 3, 4}})
		wantsNoPart(t, name+": Put of what doesn't fit", p, err, api.ErrDead)
		p, err = s.Remove(e, comp)
		wantsNoPart(t, name+": Remove", p, err, api.ErrDead)
		p, err = s.Get(e, comp)
		wantsNoPart(t, name+": Get", p, err, api.ErrDead)
		for _, cell := range []int{0, 3, 4, -1, math.MinInt, math.MaxInt} {
			p, err = s.Set(e, comp, cell, 8, 8)
			wantsNoPart(t, name+": Set", p, err, api.ErrDead)
		}
	}
	wantTold(t, name, s, before)
}

func TestP9_2_WhoWasNeverGiven(t *testing.T) {
	for _, most := range []int{0, 1, 4, api.MaxEntities} {
		s := made(t, most, widths...)
		for n := range min(most, 3) {
			spawned(t, s, fulls(widths, api.Mask(5*n), n)...)
		}
		for _, index := range append([]int{0, 1, 2, 3, most - 1, most, most + 1, 63, 64, 65, 256, 1 << 16}, ends...) {
			for _, gen := range []int{0, 2, 3, -1, 1 << 32, 1<<32 + 1, math.MinInt, math.MinInt + 1, math.MaxInt} {
				wantsNoOne(t, "never given", s, api.Entity{Index: index, Gen: gen})
			}
			if index < 0 || index >= min(most, 3) {
				wantsNoOne(t, "never given", s, api.Entity{Index: index, Gen: 1})
			}
		}
	}
}

func TestP9_2_WhoIsGone(t *testing.T) {
	s := made(t, 2, widths...)
	stays := spawned(t, s, fulls(widths, 15, 7)...)
	var gone []api.Entity
	for n := range 6 {
		e := spawned(t, s, fulls(widths, api.Mask(n*3%16), n)...)
		if e != (api.Entity{Index: 1, Gen: n + 1}) {
			t.Fatalf("generation %d: %v", n, e)
		}
		for _, old := range gone {
			wantsNoOne(t, "its place was given again", s, old)
		}
		wantsNoOne(t, "not yet given", s, api.Entity{Index: 1, Gen: n + 2})
		wantHas(t, "in its place", s, e, fulls(widths, api.Mask(n*3%16), n)...)
		s.Despawn(e)
		gone = append(gone, e)
		for _, old := range gone {
			wantsNoOne(t, "gone", s, old)
		}
	}
	wantHas(t, "who stays", s, stays, fulls(widths, 15, 7)...)
}

func TestP9_2_SpawnChangesAndKeepsNoRow(t *testing.T) {
	s := made(t, 8, widths...)
	row := append(make([]api.Part, 0, 12), full(3, 3, 1), full(0, 2, 1), full(2, 4, 1))
	spare := row[:cap(row)]
	for i := len(row); i < len(spare); i++ {
		spare[i] = part(77, i)
	}
	kept := slices.Clone(spare)
	e := spawned(t, s, row...)
	s.Insert(e, full(1, 1, 1))
	s.Remove(e, 3)
	s.Set(e, 0, 1, 5, 5)
	s.Spawn(row...)
	if !slices.Equal(spare, kept) {
		t.Errorf("the row is another one: %v, it was %v", spare, kept)
	}
	before := told(s)
	for i := range spare {
		spare[i] = api.Part{Comp: 1, Values: [4]int{9, 9, 9, 9}, Tick: 9}
	}
	wantTold(t, "who changes a row that was handed in", s, before)
}

func TestP9_2_ListsAreNewMemory(t *testing.T) {
	s := made(t, 5, widths...)
	var list []api.Entity
	for n := range 4 {
		list = append(list, spawned(t, s, fulls(widths, 13, n)...))
	}
	spoil := func(parts []api.Part) {
		for i := range parts[:cap(parts)] {
			parts[:cap(parts)][i] = part(-7, -7)
		}
	}
	spoilAll := func(entities []api.Entity) {
		for i := range entities[:cap(entities)] {
			entities[:cap(entities)][i] = api.Entity{Index: 63, Gen: -7}
		}
	}
	before := told(s)
	for _, e := range list {
		parts, _ := s.Parts(e)
		other, _ := s.Parts(e)
		spoil(parts)
		wantParts(t, "Parts", other, nil, fulls(widths, 13, e.Index)...)
	}
	for _, ask := range []func() []api.Entity{
		func() []api.Entity { return s.Match(0, 0) },
		func() []api.Entity { return s.Match(1, 2) },
		func() []api.Entity { return s.Changed(0, math.MinInt) },
	} {
		told, other := ask(), ask()
		spoilAll(told)
		wantEntities(t, "another answer", other, list...)
		wantEntities(t, "the next answer", ask(), list...)
	}
	wantTold(t, "who changes a list that was told", s, before)
	gone, _ := s.Despawn(list[1])
	before = told(s)
	spoil(gone)
	wantTold(t, "who changes what Despawn told", s, before)
}

func TestP9_2_ListsThatWereToldStay(t *testing.T) {
	s := made(t, 4, widths...)
	var list []api.Entity
	for n := range 3 {
		list = append(list, spawned(t, s, fulls(widths, 7, n)...))
	}
	parts, _ := s.Parts(list[1])
	all, changed := s.Match(7, 0), s.Changed(2, 0)
	gone, _ := s.Despawn(list[0])
	s.Set(list[1], 0, 0, -9, -9)
	s.Put(list[1], part(2, -9))
	s.Remove(list[1], 1)
	s.Insert(list[2], full(3, 3, 5))
	s.Despawn(list[2])
	spawned(t, s, fulls(widths, 7, 9)...)
	wantParts(t, "Parts", parts, nil, fulls(widths, 7, 1)...)
	wantParts(t, "Despawn", gone, nil, fulls(widths, 7, 0)...)
	wantEntities(t, "Match", all, list...)
	wantEntities(t, "Changed", changed, list...)
}

// TestP9_2_StoreOfOnePlace uses it again and again.
func TestP9_2_StoreOfOnePlace(t *testing.T) {
	s, _ := store.New(schemaOf(repeated(api.MaxComponents)...), 1)
	for n := range 300 {
		set := api.Mask(n * 7919 % (1 << 16))
		want := fulls(repeated(api.MaxComponents), set, n)
		e := spawned(t, s, want...)
		if e != (api.Entity{Gen: n + 1}) {
			t.Fatalf("the %dth: %v", n, e)
		}
		wantHas(t, "one place", s, e, want...)
		got, err := s.Despawn(e)
		wantParts(t, "one place", got, err, want...)
	}
}
