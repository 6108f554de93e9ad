package store_test

import (
	"fmt"
	"maps"
	"math"
	"math/rand"
	"slices"
	"testing"

	"pasodoble/api"
	"pasodoble/store"
)

// TestP9_5_WhereItStandsCantBeTold brings the same entities into the same sets by other ways.
func TestP9_5_WhereItStandsCantBeTold(t *testing.T) {
	straight, around := made(t, 4, widths...), made(t, 4, widths...)
	var list []api.Entity
	for n, set := range []api.Mask{5, 5, 7, 5} {
		list = append(list, spawned(t, straight, fulls(widths, set, n)...))
	}
	for range 4 {
		spawned(t, around)
	}
	for _, n := range []int{2, 0, 3, 1} {
		for _, p := range fulls(widths, 7, n) {
			around.Insert(list[n], p)
		}
	}
	for _, n := range []int{3, 1, 0} {
		around.Remove(list[n], 1)
	}
	for range 3 { // on the ways, sets were had that weren't on the other one's
		straight.Insert(list[3], part(1, 1))
		straight.Remove(list[3], 0)
		straight.Remove(list[3], 2)
		straight.Remove(list[3], 1)
		straight.Insert(list[3], full(0, 2, 3))
		straight.Insert(list[3], part(1, 1))
		straight.Remove(list[3], 1)
		straight.Insert(list[3], full(2, 4, 3))
	}
	for n, e := range list {
		want, _ := straight.Parts(e)
		wantHas(t, "another way", around, e, want...)
		wantHas(t, "there and back", straight, e, fulls(widths, []api.Mask{5, 5, 7, 5}[n], n)...)
	}
	for set := range api.Mask(16) {
		wantEntities(t, "Match", around.Match(set, 0), straight.Match(set, 0)...)
		wantEntities(t, "Match without", around.Match(0, set), straight.Match(0, set)...)
	}
	for comp := range widths {
		wantEntities(t, "Changed", around.Changed(comp, 1002), straight.Changed(comp, 1002)...)
	}
}

// TestP9_5_TheSameCallsTellTheSame asks that the order in which tables are gone through isn't told.
func TestP9_5_TheSameCallsTellTheSame(t *testing.T) {
	play := func() (all string) {
		s := made(t, api.MaxEntities, widths...)
		for n := range api.MaxEntities {
			spawned(t, s, fulls(widths, api.Mask(n*7%16), n)...)
		}
		for n := range 50 {
			e := s.Match(0, 0)[n*31%api.MaxEntities]
			if s.Insert(e, part(n%4, n)) != nil {
				s.Remove(e, n%4)
			}
			all += told(s)
		}
		return all
	}
	first := play()
	for range 3 {
		if play() != first {
			t.Fatal("the same calls tell another store")
		}
	}
}

// pair is a store beside the chapter's words told another way: a being for each place, gone through at each question.
type pair struct {
	*testing.T
	s      *store.Store
	widths []int
	free   []int // from the end
	beings []being
	sets   map[api.Mask]int // how often each was come to
}

type being struct {
	gen   int
	there bool
	has   map[int]api.Part
}

func paired(t *testing.T, most int, widths []int) *pair {
	p := &pair{T: t, s: made(t, most, widths...), widths: widths, beings: make([]being, most), sets: map[api.Mask]int{0: 1}}
	for index := range most {
		p.free = append([]int{index}, p.free...)
	}
	return p
}

// at answers the being of an entity; nil, if it isn't there.
func (p *pair) at(e api.Entity) *being {
	for index := range p.beings {
		if b := &p.beings[index]; index == e.Index && b.gen == e.Gen && b.there {
			return b
		}
	}
	return nil
}

func (p *pair) fits(q api.Part) bool {
	if q.Comp < 0 || q.Comp >= len(p.widths) {
		return false
	}
	for cell, value := range q.Values {
		if cell >= p.widths[q.Comp] && value != 0 {
			return false
		}
	}
	return true
}

func (b *being) mask() (m api.Mask) {
	for comp := range b.has {
		m |= 1 << comp
	}
	return m
}

// parts are a being's, by rising Comp.
func (b *being) parts() (list []api.Part) {
	for comp := range api.MaxComponents {
		if q, has := b.has[comp]; has {
			list = append(list, q)
		}
	}
	return list
}

func (p *pair) spawn(parts ...api.Part) {
	p.Helper()
	got, err := p.s.Spawn(parts...)
	name := fmt.Sprint("Spawn ", parts)
	has := map[int]api.Part{}
	for _, q := range parts {
		if !p.fits(q) {
			wantsNoEntity(p.T, name, got, err, api.ErrArg)
			return
		}
		has[q.Comp] = q
	}
	switch last := len(p.free) - 1; {
	case len(has) < len(parts):
		wantsNoEntity(p.T, name, got, err, api.ErrTwice)
	case last < 0:
		wantsNoEntity(p.T, name, got, err, api.ErrFull)
	default:
		index := p.free[last]
		p.free = p.free[:last]
		b := &p.beings[index]
		*b = being{gen: b.gen + 1, there: true, has: has}
		p.sets[b.mask()]++
		if want := (api.Entity{Index: index, Gen: b.gen}); got != want || err != nil {
			p.Fatalf("%s: %v, %v, want %v", name, got, err, want)
		}
	}
}

func (p *pair) despawn(e api.Entity) {
	p.Helper()
	got, err := p.s.Despawn(e)
	b := p.at(e)
	if b == nil {
		wantsNoParts(p.T, fmt.Sprint("Despawn ", e), got, err, api.ErrDead)
		return
	}
	wantParts(p.T, fmt.Sprint("Despawn ", e), got, err, b.parts()...)
	b.there = false
	p.free = append(p.free, e.Index)
}

func (p *pair) insert(e api.Entity, q api.Part) {
	p.Helper()
	err := p.s.Insert(e, q)
	name := fmt.Sprintf("Insert %v, %v", e, q)
	b := p.at(e)
	switch {
	case b == nil:
		wants(p.T, name, err, api.ErrDead)
	case !p.fits(q):
		wants(p.T, name, err, api.ErrArg)
	case b.mask()>>q.Comp%2 == 1:
		wants(p.T, name, err, api.ErrTwice)
	default:
		if err != nil {
			p.Fatal(name, err)
		}
		b.has[q.Comp] = q
		p.sets[b.mask()]++
	}
}

func (p *pair) remove(e api.Entity, comp int) {
	p.Helper()
	got, err := p.s.Remove(e, comp)
	name := fmt.Sprintf("Remove %v, %d", e, comp)
	b := p.at(e)
	if b == nil {
		wantsNoPart(p.T, name, got, err, api.ErrDead)
		return
	}
	old, has := b.has[comp]
	if !has {
		wantsNoPart(p.T, name, got, err, api.ErrNone)
		return
	}
	wantPart(p.T, name, got, err, old)
	delete(b.has, comp)
	p.sets[b.mask()]++
}

func (p *pair) put(e api.Entity, q api.Part) {
	p.Helper()
	got, err := p.s.Put(e, q)
	name := fmt.Sprintf("Put %v, %v", e, q)
	b := p.at(e)
	switch {
	case b == nil:
		wantsNoPart(p.T, name, got, err, api.ErrDead)
	case !p.fits(q):
		wantsNoPart(p.T, name, got, err, api.ErrArg)
	case b.mask()>>q.Comp%2 == 0:
		wantsNoPart(p.T, name, got, err, api.ErrNone)
	default:
		wantPart(p.T, name, got, err, b.has[q.Comp])
		b.has[q.Comp] = q
	}
}

func (p *pair) set(e api.Entity, comp, cell, value, frame int) {
	p.Helper()
	got, err := p.s.Set(e, comp, cell, value, frame)
	name := fmt.Sprintf("Set %v, %d, %d, %d, %d", e, comp, cell, value, frame)
	b := p.at(e)
	if b == nil {
		wantsNoPart(p.T, name, got, err, api.ErrDead)
		return
	}
	old, has := b.has[comp]
	switch {
	case !has:
		wantsNoPart(p.T, name, got, err, api.ErrNone)
	case cell < 0 || cell >= p.widths[comp]:
		wantsNoPart(p.T, name, got, err, api.ErrArg)
	default:
		wantPart(p.T, name, got, err, old)
		old.Values[cell], old.Tick = value, frame
		b.has[comp] = old
	}
}

// meant are the entities of the beings that are asked for, by rising indices.
func (p *pair) meant(ask func(b *being) bool) (list []api.Entity) {
	for index := range p.beings {
		if b := &p.beings[index]; b.there && ask(b) {
			list = append(list, api.Entity{Index: index, Gen: b.gen})
		}
	}
	return list
}

// same asks that the store tells what the beings say.
func (p *pair) same(with, without api.Mask, comp, frame int) {
	p.Helper()
	all := p.meant(func(*being) bool { return true })
	wantEntities(p.T, "all", p.s.Match(0, 0), all...)
	for _, e := range all {
		wantHas(p.T, "a row of calls", p.s, e, p.at(e).parts()...)
	}
	if p.s.Count() != len(all) || p.s.Tables() != len(p.sets) {
		p.Fatalf("Count %d, want %d; Tables %d, want %d", p.s.Count(), len(all), p.s.Tables(), len(p.sets))
	}
	wantEntities(p.T, fmt.Sprintf("Match %d, %d", with, without), p.s.Match(with, without), p.meant(func(b *being) bool {
		return b.mask()&with == with && b.mask()&without == 0
	})...)
	wantEntities(p.T, fmt.Sprintf("Changed %d, %d", comp, frame), p.s.Changed(comp, frame), p.meant(func(b *being) bool {
		q, has := b.has[comp]
		return has && q.Tick >= frame
	})...)
}

// drawn draws arguments, most of them right.
type drawn struct {
	*rand.Rand
	*pair
}

func (d drawn) comp() int {
	if d.Intn(12) == 0 {
		return ends[d.Intn(len(ends))]
	}
	return d.Intn(len(d.widths)+1) - d.Intn(10)/9
}

func (d drawn) part() api.Part {
	q := api.Part{Comp: d.comp(), Tick: d.Intn(9) - 4}
	width := d.Intn(api.MaxWidth + 1)
	if q.Comp >= 0 && q.Comp < len(d.widths) && d.Intn(8) != 0 {
		width = d.widths[q.Comp]
	}
	for cell := range width {
		q.Values[cell] = d.Intn(5) - 2
	}
	return q
}

func (d drawn) entity() api.Entity {
	index := d.Intn(len(d.beings)+2) - 1
	if index < 0 || index >= len(d.beings) {
		return api.Entity{Index: index, Gen: d.Intn(3)}
	}
	return api.Entity{Index: index, Gen: d.beings[index].gen - d.Intn(8)/7}
}

func (d drawn) call() {
	d.Helper()
	switch d.Intn(7) {
	case 0:
		var parts []api.Part
		for range d.Intn(4) {
			parts = append(parts, d.part())
		}
		d.spawn(parts...)
	case 1:
		if d.Intn(3) == 0 {
			d.despawn(d.entity())
		}
	case 2, 3:
		d.insert(d.entity(), d.part())
	case 4:
		d.remove(d.entity(), d.comp())
	case 5:
		d.put(d.entity(), d.part())
	case 6:
		d.set(d.entity(), d.comp(), d.Intn(6)-1, d.Intn(5)-2, d.Intn(9)-4)
	}
}

// TestP9_5_DrawnRowsOfCalls plays calls that are drawn, right and wrong ones, and asks for all entities behind each.
func TestP9_5_DrawnRowsOfCalls(t *testing.T) {
	draw := rand.New(rand.NewSource(9))
	for round := range 120 {
		widths := make([]int, round%(api.MaxComponents+1))
		for comp := range widths {
			widths[comp] = 1 + draw.Intn(api.MaxWidth)
		}
		d := drawn{draw, paired(t, []int{0, 1, 2, 5, 9}[round%5], widths)}
		for range 120 {
			d.call()
			with, without := draw.Uint32()&draw.Uint32()&draw.Uint32(), draw.Uint32()&draw.Uint32()
			d.same(api.Mask(with&0x1ffff), api.Mask(without), d.comp(), draw.Intn(10)-5)
		}
	}
}

// TestP9_5_ACrowdedStore plays with all places, and few sets: long tables.
func TestP9_5_ACrowdedStore(t *testing.T) {
	d := drawn{rand.New(rand.NewSource(10)), paired(t, api.MaxEntities, []int{4, 1})}
	for range api.MaxEntities {
		d.spawn(full(0, 4, 1), full(1, 1, 1))
	}
	for n := range 1500 {
		d.call()
		if n%10 == 0 {
			d.same(1, 2, 0, 0)
			d.same(3, 0, 1, math.MinInt)
		}
	}
	sets := slices.Sorted(maps.Keys(d.sets))
	if !slices.Equal(sets, []api.Mask{0, 1, 2, 3}) {
		t.Error("the calls came to the sets", sets)
	}
}
