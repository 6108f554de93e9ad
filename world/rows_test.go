package world_test

import (
	"fmt"
	"maps"
	"math/rand"
	"slices"
	"testing"

	"pasodoble/api"
	"pasodoble/dice"
	"pasodoble/journal"
	"pasodoble/query"
)

// plain is the chapter's words told another way: who is there by numbers, with parts by components.
type plain struct {
	most      int
	frame     int
	next      int
	seed      int
	resources []int
	there     map[int]map[int]api.Part
	j         *journal.Journal // what is to be noted
}

func (w *plain) state() api.State {
	st := api.State{Frame: w.frame, Next: w.next, Seed: w.seed, Resources: slices.Clone(w.resources)}
	for _, b := range w.view() {
		b.Parts = slices.DeleteFunc(b.Parts, func(p api.Part) bool { return !rolls[p.Comp] })
		st.Beings = append(st.Beings, b)
	}
	return st
}

func (w *plain) view() (list []api.Being) {
	for _, id := range slices.Sorted(maps.Keys(w.there)) {
		list = append(list, being(id, w.parts(id)...))
	}
	return list
}

// parts are those of who has a number, by rising Comp.
func (w *plain) parts(id int) (list []api.Part) {
	for comp := range comps {
		if p, has := w.there[id][comp]; has {
			list = append(list, p)
		}
	}
	return list
}

func (w *plain) query(f api.Filter) (ids []int) {
	for _, b := range w.view() {
		if query.Means(f, w.frame, b.Parts...) {
			ids = append(ids, b.ID)
		}
	}
	return ids
}

// shown are the parts that are only shown, of all who are there.
func (w *plain) shown() map[int][]api.Part {
	all := map[int][]api.Part{}
	for id := range w.there {
		all[id] = slices.DeleteFunc(w.parts(id), func(p api.Part) bool { return rolls[p.Comp] })
	}
	return all
}

func fits(p api.Part) bool {
	if p.Comp < 0 || p.Comp >= comps {
		return false
	}
	for cell, value := range p.Values {
		if cell >= widths[p.Comp] && value != 0 {
			return false
		}
	}
	return true
}

// come lets somebody be there by a number; layer 9's Spawn's errors.
func (w *plain) come(id int, parts []api.Part, refused error) error {
	has := map[int]api.Part{}
	for _, p := range parts {
		if !fits(p) {
			return api.ErrArg
		}
		has[p.Comp] = p
	}
	switch {
	case len(has) < len(parts):
		return api.ErrTwice
	case len(w.there) >= w.most:
		return api.ErrFull
	case refused != nil:
		return refused
	}
	w.there[id] = has
	return nil
}

func (w *plain) spawn(parts ...api.Part) (int, error) {
	var refused error
	if w.next > last {
		refused = api.ErrFull
	}
	if err := w.come(w.next, parts, refused); err != nil {
		return 0, err
	}
	w.j.Note(api.Undo{Kind: api.UndoNext, Old: w.next})
	w.j.Note(api.Undo{Kind: api.UndoSpawn, ID: w.next})
	w.next++
	return w.next - 1, nil
}

func (w *plain) despawn(id int) error {
	if w.there[id] == nil {
		return api.ErrDead
	}
	w.j.Note(api.Undo{Kind: api.UndoDespawn, ID: id, Parts: w.parts(id)})
	delete(w.there, id)
	return nil
}

func (w *plain) note(u api.Undo) {
	if rolls[u.Part.Comp] {
		w.j.Note(u)
	}
}

func (w *plain) insert(id, comp int) error {
	if w.there[id] == nil {
		return api.ErrDead
	}
	if comp < 0 || comp >= comps {
		return api.ErrArg
	}
	if _, has := w.there[id][comp]; has {
		return api.ErrTwice
	}
	w.note(api.Undo{Kind: api.UndoInsert, ID: id, Part: api.Part{Comp: comp}})
	w.there[id][comp] = began(comp, w.frame)
	return nil
}

func (w *plain) remove(id, comp int) error {
	if w.there[id] == nil {
		return api.ErrDead
	}
	p, has := w.there[id][comp]
	if !has {
		return api.ErrNone
	}
	w.note(api.Undo{Kind: api.UndoRemove, ID: id, Part: p})
	delete(w.there[id], comp)
	return nil
}

func (w *plain) set(id, comp, cell, value int) error {
	if w.there[id] == nil {
		return api.ErrDead
	}
	p, has := w.there[id][comp]
	if !has {
		return api.ErrNone
	}
	if cell < 0 || cell >= widths[comp] {
		return api.ErrArg
	}
	w.note(api.Undo{Kind: api.UndoCells, ID: id, Part: p})
	w.there[id][comp] = with(p, cell, value, w.frame)
	return nil
}

func (w *plain) assign(i, value int) error {
	if i < 0 || i >= len(w.resources) {
		return api.ErrNone
	}
	w.j.Note(api.Undo{Kind: api.UndoResource, N: i, Old: w.resources[i]})
	w.resources[i] = value
	return nil
}

func (w *plain) draw(below int) int {
	w.j.Note(api.Undo{Kind: api.UndoSeed, Old: w.seed})
	seed, drawn := dice.Draw(w.seed, below)
	w.seed = seed
	return drawn
}

func (w *plain) tick() error {
	if w.frame == last {
		return api.ErrFull
	}
	w.j.Note(api.Undo{Kind: api.UndoFrame, Old: w.frame})
	w.frame++
	return nil
}

// greatest is the greatest number that somebody has; 0, if nobody is there.
func (w *plain) greatest() int { return slices.Max(append(slices.Collect(maps.Keys(w.there)), 0)) }

func (w *plain) undo(u api.Undo) error {
	has, p := w.there[u.ID], u.Part
	_, there := has[p.Comp]
	dead := has == nil
	switch {
	case dead && slices.Contains(parted, u.Kind):
		return api.ErrDead
	case (u.Kind == api.UndoCells || u.Kind == api.UndoRemove) && !fits(p):
		return api.ErrArg
	case u.Kind == api.UndoCells && !there, u.Kind == api.UndoInsert && !there:
		return api.ErrNone
	case u.Kind == api.UndoRemove && there:
		return api.ErrTwice
	case u.Kind == api.UndoCells, u.Kind == api.UndoRemove:
		has[p.Comp] = p
	case u.Kind == api.UndoInsert:
		delete(has, p.Comp)
	case u.Kind == api.UndoSpawn:
		delete(w.there, u.ID)
	case u.Kind == api.UndoDespawn && (u.ID < 1 || u.ID >= w.next):
		return w.come(u.ID, u.Parts, api.ErrArg)
	case u.Kind == api.UndoDespawn && !dead:
		return w.come(u.ID, u.Parts, api.ErrTwice)
	case u.Kind == api.UndoDespawn:
		return w.come(u.ID, u.Parts, nil)
	default:
		return w.undoNumber(u)
	}
	return nil
}

func (w *plain) undoNumber(u api.Undo) error {
	switch {
	case u.Kind == api.UndoResource && (u.N < 0 || u.N >= len(w.resources)):
		return api.ErrNone
	case u.Kind == api.UndoResource:
		w.resources[u.N] = u.Old
	case u.Kind == api.UndoNext && u.Old > w.greatest() && u.Old <= last+1:
		w.next = u.Old
	case u.Kind == api.UndoSeed:
		w.seed = u.Old
	case u.Kind == api.UndoFrame && u.Old >= 0 && u.Old <= last:
		w.frame = u.Old
	default:
		return api.ErrArg
	}
	return nil
}

// pair is a world beside a plain one.
type pair struct {
	*stage
	*rand.Rand
	p *plain
}

func paired(t *testing.T, seed, most int) *pair {
	w := made(t, most, seed)
	return &pair{recorded(t, w), rand.New(rand.NewSource(int64(seed))), &plain{
		most: most, next: 1, seed: seed, resources: []int{3, -1}, there: map[int]map[int]api.Part{}, j: marked(t, 1000),
	}}
}

// agree asks that a call answers the same of both.
func (d *pair) agree(name string, got, want any, err, wantErr error) {
	d.Helper()
	if wantErr != nil {
		wants(d.T, name, err, wantErr)
	} else if err != nil {
		d.Errorf("%s: %v", name, err)
	}
	if fmt.Sprint(got) != fmt.Sprint(want) {
		d.Errorf("%s: %v, want %v", name, got, want)
	}
}

// drawnID is mostly a number of somebody.
func (d *pair) drawnID() int {
	if d.Intn(15) == 0 {
		return ends[d.Intn(len(ends))]
	}
	if view := d.p.view(); len(view) > 0 && d.Intn(8) != 0 {
		return view[d.Intn(len(view))].ID
	}
	return d.Intn(d.p.next+2) - 1
}

func (d *pair) drawnComp() int {
	if d.Intn(25) == 0 {
		return noComps()[d.Intn(len(noComps()))]
	}
	return d.Intn(comps)
}

func (d *pair) drawnPart() api.Part {
	p := api.Part{Comp: d.drawnComp(), Tick: d.Intn(9) - 1}
	width := d.Intn(api.MaxWidth + 1)
	if p.Comp >= 0 && p.Comp < comps && d.Intn(12) != 0 {
		width = widths[p.Comp]
	}
	for cell := range width {
		p.Values[cell] = d.Intn(100) - 50
	}
	return p
}

func (d *pair) drawnParts() []api.Part {
	var list []api.Part
	for _, comp := range d.Perm(comps)[:d.Intn(comps+1)] {
		list = append(list, full(comp, d.Intn(50)))
	}
	if d.Intn(6) == 0 {
		list = append(list, d.drawnPart())
	}
	return list
}

// change makes a drawn change to both.
func (d *pair) change() {
	d.Helper()
	id, comp, n := d.drawnID(), d.drawnComp(), d.Intn(100)
	switch d.Intn(16) {
	case 0, 1:
		parts := d.drawnParts()
		got, err := d.Spawn(slices.Clone(parts)...)
		want, wantErr := d.p.spawn(parts...)
		d.agree(fmt.Sprint("Spawn ", parts), got, want, err, wantErr)
	case 2:
		d.agree(fmt.Sprint("Despawn ", id), 0, 0, d.Despawn(id), d.p.despawn(id))
	case 3, 4, 5:
		d.agree(fmt.Sprint("Insert ", id, comp), 0, 0, d.Insert(id, comp), d.p.insert(id, comp))
	case 6, 7:
		d.agree(fmt.Sprint("Remove ", id, comp), 0, 0, d.Remove(id, comp), d.p.remove(id, comp))
	case 8, 9, 10, 11:
		cell := d.Intn(widths[min(max(comp, 0), comps-1)]+d.Intn(2)) - d.Intn(20)/19
		d.agree(fmt.Sprint("Set ", id, comp, cell, n), 0, 0, d.Set(id, comp, cell, n), d.p.set(id, comp, cell, n))
	case 12, 13:
		i := d.Intn(3) - d.Intn(5)/4
		d.agree(fmt.Sprint("Assign ", i, n), 0, 0, d.Assign(i, n), d.p.assign(i, n))
	case 14:
		got, err := d.Draw(n - 5)
		d.agree(fmt.Sprint("Draw ", n-5), got, d.p.draw(n-5), err, nil)
	case 15:
		d.agree("Tick", 0, 0, d.Tick(), d.p.tick())
	}
}

// anyUndo takes back what may never have been done.
func (d *pair) anyUndo() {
	d.Helper()
	u := api.Undo{
		Kind: d.Intn(api.UndoFrame+3) - 1, ID: d.drawnID(), Part: d.drawnPart(), Parts: d.drawnParts(),
		N: d.Intn(4) - 1, Old: d.Intn(d.p.next+4) - 1,
	}
	if d.Intn(10) == 0 {
		u.Old = ends[d.Intn(len(ends))]
	}
	handed := u
	handed.Parts = slices.Clone(u.Parts)
	d.agree(fmt.Sprintf("Undo %+v", u), 0, 0, d.Undo(handed), d.p.undo(u))
	clear(handed.Parts)
}

// same asks that both tell the same, and that the same was noted.
func (d *pair) same(name string) {
	d.Helper()
	wantState(d.T, name, d.World, d.p.state())
	wantView(d.T, name, d.World, d.p.view()...)
	for _, b := range d.p.view() {
		d.wantParts(name, b.ID, b.Parts...)
	}
	for _, f := range filters {
		wantQuery(d.T, d.World, f, d.p.query(f)...)
	}
	frame := slices.Max(d.p.j.Marks())
	got, err := d.j.Since(frame)
	want, _ := d.p.j.Since(frame)
	if err != nil || d.j.Len() != d.p.j.Len() || !slices.EqualFunc(got, want, journal.Same) {
		d.Errorf("%s: noted %d in all, in the last stretch %+v, %v, want %d, %+v", name, d.j.Len(), got, err, d.p.j.Len(), want)
	}
	if d.Failed() {
		d.Fatal(name)
	}
}

// both makes a call on both journals.
func (d *pair) both(call func(j *journal.Journal)) {
	call(d.j)
	call(d.p.j)
}

func TestP14_2_DrawnRowsOfCalls(t *testing.T) {
	for seed := range 60 {
		d := paired(t, seed, []int{1, 2, 4, 7, 64}[seed%5])
		for call := range 120 {
			if d.Intn(12) == 0 {
				d.both(func(j *journal.Journal) { j.Mark(call + 1) })
			}
			d.change()
			d.same(fmt.Sprint("row ", seed, " call ", call))
		}
	}
}

// TestP14_3_DrawnRowsOfUndos: changes between undos that take back what may never have been done.
func TestP14_3_DrawnRowsOfUndos(t *testing.T) {
	for seed := range 60 {
		d := paired(t, seed, []int{1, 2, 4, 7, 64}[seed%5])
		for call := range 120 {
			if d.Intn(2) == 0 {
				d.change()
			} else {
				d.anyUndo()
			}
			d.same(fmt.Sprint("row ", seed, " call ", call))
		}
	}
}

// saved is how the world was at a mark.
type saved struct {
	frame int
	state api.State
	stays map[int]bool // who was there, and has been ever since
}

// TestP14_5_BackAgain: rows of calls are noted, gone back to a mark, undone one by one, and gone on from there.
func TestP14_5_BackAgain(t *testing.T) {
	for seed := range 60 {
		d := paired(t, seed, []int{1, 3, 5, 9, 64}[seed%5])
		var marks []saved
		for round := range 25 {
			name := fmt.Sprint("row ", seed, " round ", round)
			frame := 1 + round
			d.both(func(j *journal.Journal) { j.Mark(frame) })
			marks = append(marks, saved{frame, copied(d.State()), there(d)})
			for range d.Intn(20) {
				d.change()
				for _, m := range marks {
					maps.DeleteFunc(m.stays, func(id int, _ bool) bool { return d.p.there[id] == nil })
				}
			}
			d.same(name)
			if d.Intn(3) == 0 {
				at := len(marks) - 1 - d.Intn(min(4, len(marks)))
				marks = marks[:at+1]
				d.goBack(name, marks[at])
			}
		}
	}
}

func there(d *pair) map[int]bool {
	list := map[int]bool{}
	for id := range d.p.there {
		list[id] = true
	}
	return list
}

// goBack undoes all behind a mark, the last one first, and asks for the state, and what is only shown.
func (d *pair) goBack(name string, to saved) {
	d.Helper()
	shown := d.p.shown()
	list, err := d.j.Back(to.frame)
	if err != nil {
		d.Fatalf("%s: Back %d: %v", name, to.frame, err)
	}
	d.p.j.Back(to.frame)
	for i, u := range list {
		d.agree(fmt.Sprintf("%s: Undo %+v", name, u), 0, 0, d.Undo(u), nil)
		d.p.undo(u)
		d.same(fmt.Sprint(name, " undone ", i))
	}
	wantState(d.T, name+" back again", d.World, to.state)
	for id := range to.stays {
		parts, err := d.Parts(id)
		parts = slices.DeleteFunc(parts, func(p api.Part) bool { return rolls[p.Comp] })
		if err != nil || !slices.Equal(parts, shown[id]) {
			d.Errorf("%s back again: shown of %d: %v, %v, want as it was, %v", name, id, parts, err, shown[id])
		}
	}
	if d.Failed() {
		d.Fatal(name)
	}
}

// undoAll undoes all behind a mark, the last one first.
func (x *stage) undoAll(frame int) {
	x.Helper()
	list, err := x.j.Back(frame)
	if err != nil {
		x.Fatal(err)
	}
	for _, u := range list {
		if err := x.Undo(u); err != nil {
			x.Errorf("Undo %+v: %v", u, err)
		}
	}
}

func TestP14_5_ARowOfCalls(t *testing.T) {
	x := staged(t)
	st, view := x.State(), x.View()
	for i, err := range many(x.World) {
		if err != nil {
			t.Fatal(i, err)
		}
	}
	x.undoAll(0)
	wantState(t, "back again", x.World, st)
	for i, p := range view[0].Parts {
		if p.Comp == look {
			view[0].Parts[i] = with(p, 0, 77, 5)
		}
	}
	view[1].Parts = []api.Part{full(pos, 2), began(hue, 5)}
	wantView(t, "what is only shown stays", x.World, view...)
	x.wantRefused("Insert of what is only shown, again", api.ErrTwice, func() error { return x.Insert(2, hue) })
	x.wantRefused("Remove of what is only shown, again", api.ErrNone, func() error { return x.Remove(2, look) })
}

// TestP14_5_Despawned: who comes again has its number, all its parts, and those that are only shown as they were last.
func TestP14_5_Despawned(t *testing.T) {
	x := staged(t)
	st := x.State()
	x.Set(1, look, 0, 70)
	for id := 1; id <= 3; id++ {
		x.Despawn(id)
	}
	for n := range 9 { // all places are used again
		if id := spawned(t, x.World, full(look, n)); id != 4+n {
			t.Fatalf("Spawn: %d, want %d", id, 4+n)
		}
		if n >= 4 {
			x.Despawn(n)
		}
	}
	x.undoAll(0)
	wantState(t, "back again", x.World, st)
	x.wantParts("with all parts", 1, full(pos, 1), full(hp, 1), with(full(look, 1), 0, 70, 4), full(vel, 1), full(hue, 1))
	x.wantParts("with all parts", 2, fulls(2, pos, look)...)
	for n := range 9 {
		wantGone(t, "back again", x.World, 4+n)
	}
	if id := spawned(t, x.World); id != 4 {
		t.Errorf("Spawn: %d, want 4 again", id)
	}
}

// TestP14_5_Crowded: with all places given, who is despawned makes room for who comes, and both ways back are free.
func TestP14_5_Crowded(t *testing.T) {
	w := made(t, api.MaxEntities, 3)
	for n := range api.MaxEntities {
		spawned(t, w, fulls(n, pos, look)...)
	}
	x := recorded(t, w)
	st := x.State()
	for n := range api.MaxEntities {
		x.Despawn(1 + n*37%api.MaxEntities)
		spawned(t, w, full(hp, n))
	}
	for n := range api.MaxEntities {
		x.Despawn(api.MaxEntities + 1 + n*11%api.MaxEntities)
	}
	if x.Count() != 0 {
		t.Fatalf("Count %d", x.Count())
	}
	x.undoAll(0)
	wantState(t, "back again", w, st)
	for n := range api.MaxEntities {
		x.wantParts("back again", 1+n, fulls(n, pos, look)...)
	}
}

// TestP14_5_TheLastFrameAndNumber are come back to as well.
func TestP14_5_TheLastFrameAndNumber(t *testing.T) {
	st := good()
	st.Frame, st.Next = last-1, last
	x := recorded(t, built(t, 5, st))
	for range 2 {
		x.Tick()
		x.Spawn(full(pos, 1))
	}
	if is := x.State(); is.Frame != last || is.Next != last+1 {
		t.Fatalf("the end: %+v", is)
	}
	x.undoAll(0)
	wantState(t, "back again", x.World, st)
	x.Tick()
	if id := spawned(t, x.World); id != last || x.Frame() != last {
		t.Errorf("again: %d, %d", id, x.Frame())
	}
}

// TestP14_5_TheSameCallsTellTheSame: two worlds that are called alike are alike, whatever is made beside them.
func TestP14_5_TheSameCallsTellTheSame(t *testing.T) {
	play := func() (all string) {
		d := paired(t, 5, 30)
		for range 200 {
			d.change()
			all += told(d.World) + toldOf(d.j)
			spawned(t, made(t, 1, 1), full(pos, 1))
		}
		return all
	}
	first := play()
	for range 3 {
		if play() != first {
			t.Fatal("the same calls tell another thing")
		}
	}
}
