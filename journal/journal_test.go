package journal_test

import (
	"errors"
	"fmt"
	"math"
	"slices"
	"testing"

	"pasodoble/api"
	"pasodoble/blame"
	"pasodoble/journal"
)

// last is the last frame that can be marked, roomy so many entries as most tests never come to.
const (
	last  = api.MaxFrame
	roomy = 1000
)

// ends are numbers at both ends of 64 bits and of 32 bits, and some that wrap round to a small one.
var ends = []int{
	math.MinInt, math.MinInt + 1, -1 << 32, -1<<32 + 1, math.MinInt32, -last, -64, -2, -1,
	last + 1, 1<<31 - 1, 1 << 31, 1<<32 - 1, 1 << 32, 1<<32 + 1, math.MaxInt - 1, math.MaxInt,
}

// kinds are all that an entry can be of.
var kinds = []int{
	api.UndoCells, api.UndoSpawn, api.UndoDespawn, api.UndoInsert, api.UndoRemove,
	api.UndoResource, api.UndoNext, api.UndoSeed, api.UndoFrame,
}

func cells(id, comp, value int) api.Undo {
	return api.Undo{Kind: api.UndoCells, ID: id, Part: api.Part{Comp: comp, Values: [api.MaxWidth]int{value}}}
}

func spawn(id int) api.Undo { return api.Undo{Kind: api.UndoSpawn, ID: id} }

func despawn(id int, parts ...api.Part) api.Undo {
	return api.Undo{Kind: api.UndoDespawn, ID: id, Parts: parts}
}

func insert(id, comp int) api.Undo {
	return api.Undo{Kind: api.UndoInsert, ID: id, Part: api.Part{Comp: comp}}
}

func remove(id, comp, value int) api.Undo {
	u := cells(id, comp, value)
	u.Kind = api.UndoRemove
	return u
}

func resource(n, old int) api.Undo { return api.Undo{Kind: api.UndoResource, N: n, Old: old} }

func number(kind, old int) api.Undo { return api.Undo{Kind: kind, Old: old} }

// made is a journal of at most so many entries, with these marks.
func made(t *testing.T, most int, frames ...int) *journal.Journal {
	t.Helper()
	j, err := journal.New(most)
	if err != nil || j == nil {
		t.Fatalf("New %d: %v, %v", most, j, err)
	}
	for _, frame := range frames {
		mark(t, j, frame)
	}
	return j
}

func mark(t *testing.T, j *journal.Journal, frame int) {
	t.Helper()
	if err := j.Mark(frame); err != nil {
		t.Fatalf("Mark %d: %v", frame, err)
	}
}

// note notes each of these entries, and asks that none is refused.
func note(t *testing.T, j *journal.Journal, entries ...api.Undo) {
	t.Helper()
	for _, u := range entries {
		if err := j.Note(u); err != nil {
			t.Fatalf("Note %+v: %v", u, err)
		}
	}
}

// wantNews asks that an entry is one more, the last one.
func wantNews(t *testing.T, name string, j *journal.Journal, u api.Undo) {
	t.Helper()
	many := j.Len()
	if err := j.Note(u); err != nil {
		t.Errorf("%s: Note %+v: %v", name, u, err)
		return
	}
	if j.Len() != many+1 {
		t.Errorf("%s: Note %+v: Len %d, want one above %d", name, u, j.Len(), many)
		return
	}
	marks := j.Marks()
	if list, _ := j.Since(marks[len(marks)-1]); len(list) == 0 || !journal.Same(list[0], u) {
		t.Errorf("%s: Note %+v: the last stretch is %+v", name, u, list)
	}
}

// wantNoNews asks that an entry is answered nil, and changes nothing.
func wantNoNews(t *testing.T, name string, j *journal.Journal, u api.Undo) {
	t.Helper()
	before := told(t, j)
	if err := j.Note(u); err != nil {
		t.Errorf("%s: Note %+v: %v", name, u, err)
	}
	if now := told(t, j); now != before {
		t.Errorf("%s: Note %+v: %s, want as it was, %s", name, u, now, before)
	}
}

// wants asks that this one of the named errors is told, and no other one.
func wants(t *testing.T, name string, err, want error) {
	t.Helper()
	leaves := blame.Leaves(err)
	for _, leaf := range leaves {
		if leaf.Number != blame.Number(want) {
			t.Errorf("%s: %v, want %v alone", name, leaves, want)
		}
	}
	if !errors.Is(err, want) {
		t.Errorf("%s: %v %v, want %v", name, err, leaves, want)
	}
}

// wantNoMark asks that a mark is refused, and changes nothing.
func wantNoMark(t *testing.T, j *journal.Journal, frame int, want error) {
	t.Helper()
	before := told(t, j)
	wants(t, fmt.Sprint("Mark ", frame), j.Mark(frame), want)
	if now := told(t, j); now != before {
		t.Errorf("a Mark %d that is refused: %s, want %s", frame, now, before)
	}
}

// wantNoNote asks that an entry is refused, and changes nothing.
func wantNoNote(t *testing.T, j *journal.Journal, u api.Undo, want error) {
	t.Helper()
	before := told(t, j)
	wants(t, fmt.Sprintf("Note %+v", u), j.Note(u), want)
	if now := told(t, j); now != before {
		t.Errorf("a Note %+v that is refused: %s, want %s", u, now, before)
	}
}

// wantUnmarked asks Since and Back of a frame, which are refused.
func wantUnmarked(t *testing.T, j *journal.Journal, frame int, want error) {
	t.Helper()
	before := told(t, j)
	list, err := j.Since(frame)
	wants(t, fmt.Sprint("Since ", frame), err, want)
	gone, err := j.Back(frame)
	wants(t, fmt.Sprint("Back ", frame), err, want)
	if len(list) != 0 || len(gone) != 0 {
		t.Errorf("Since and Back %d: %v, %v beside the errors", frame, list, gone)
	}
	if now := told(t, j); now != before {
		t.Errorf("a Back %d that is refused: %s, want %s", frame, now, before)
	}
}

func wantList(t *testing.T, name string, got []api.Undo, err error, want []api.Undo) {
	t.Helper()
	if err != nil || !slices.EqualFunc(got, want, journal.Same) {
		t.Errorf("%s: %+v, %v, want %+v", name, got, err, want)
	}
}

// wantSince asks for the entries behind a mark, the last one first.
func wantSince(t *testing.T, j *journal.Journal, frame int, want ...api.Undo) {
	t.Helper()
	got, err := j.Since(frame)
	wantList(t, fmt.Sprint("Since ", frame), got, err, want)
}

func wantBack(t *testing.T, j *journal.Journal, frame int, want ...api.Undo) {
	t.Helper()
	got, err := j.Back(frame)
	wantList(t, fmt.Sprint("Back ", frame), got, err, want)
}

func wantForget(t *testing.T, j *journal.Journal, frame, want int) {
	t.Helper()
	if gone := j.Forget(frame); gone != want {
		t.Errorf("Forget %d: %d, want %d", frame, gone, want)
	}
}

// wantMarks asks for the marks, and how many entries there are.
func wantMarks(t *testing.T, name string, j *journal.Journal, many int, frames ...int) {
	t.Helper()
	if got := j.Marks(); !slices.Equal(got, frames) {
		t.Errorf("%s: Marks %v, want %v", name, got, frames)
	}
	if got := j.Len(); got != many {
		t.Errorf("%s: Len %d, want %d", name, got, many)
	}
}

// told is all that a journal tells, as a text.
func told(t *testing.T, j *journal.Journal) string {
	t.Helper()
	all := fmt.Sprint(j.Len(), j.Marks())
	for _, frame := range j.Marks() {
		list, err := j.Since(frame)
		if err != nil {
			t.Errorf("Since %d, of the marks %v: %v", frame, j.Marks(), err)
		}
		all += fmt.Sprintf(" %d: %+v", frame, list)
	}
	return all
}

func TestP13_3_Example(t *testing.T) {
	x, y, z := cells(1, 2, 3), spawn(4), resource(5, 6)
	j := made(t, roomy, 0)
	note(t, j, x, y)
	mark(t, j, 1)
	note(t, j, z)
	wantSince(t, j, 1, z)
	wantSince(t, j, 0, z, y, x)
	wantForget(t, j, 1, 2)
	wantMarks(t, "forgotten", j, 1, 1)
}

func TestP13_1_New(t *testing.T) {
	for _, most := range []int{1, 2, 3, 255, 1<<16 - 1, 1 << 16} {
		j := made(t, most)
		wantMarks(t, fmt.Sprint("New ", most), j, 0)
		wantUnmarked(t, j, 0, api.ErrRange)
		wantForget(t, j, last, 0)
	}
}

func TestP13_1_NewOfNoSize(t *testing.T) {
	for _, most := range append([]int{0, 1<<16 + 1, 1<<32 + 1<<16, 1 << 17, 1 << 20, 1 << 62}, ends...) {
		j, err := journal.New(most)
		wants(t, fmt.Sprint("New ", most), err, api.ErrArg)
		if j != nil {
			t.Errorf("New %d: %v beside the error", most, j)
		}
	}
}

// wantFull fills a journal of at most so many entries, and asks that it has room for just these.
func wantFull(t *testing.T, most int) {
	t.Helper()
	j := made(t, most, 0)
	for i := range most {
		if err := j.Note(spawn(i)); err != nil {
			t.Fatalf("New %d: the entry %d: %v", most, i, err)
		}
	}
	wantMarks(t, fmt.Sprint("full of ", most), j, most, 0)
	wants(t, fmt.Sprint("one more than ", most), j.Note(spawn(most)), api.ErrFull)
	wantMarks(t, fmt.Sprint("one more than ", most), j, most, 0)
	list, err := j.Since(0)
	if err != nil || len(list) != most || list[0].ID != most-1 || list[most-1].ID != 0 {
		t.Errorf("Since of %d entries: %d of them, %v", most, len(list), err)
	}
}

func TestP13_1_RoomForSoManyAsTold(t *testing.T) {
	for _, most := range []int{1, 2, 7, 1<<16 - 1, 1 << 16} {
		wantFull(t, most)
	}
}

func TestP13_1_MarksRise(t *testing.T) {
	j := made(t, roomy, 0, 1, 5, 6, 1000, last-1, last)
	wantMarks(t, "marked", j, 0, 0, 1, 5, 6, 1000, last-1, last)
}

func TestP13_1_LenCountsEntriesNotMarks(t *testing.T) {
	j := made(t, roomy)
	many := 0
	for frame := range 20 {
		mark(t, j, frame)
		for i := range frame % 4 {
			note(t, j, spawn(i))
			many++
		}
		if j.Len() != many || len(j.Marks()) != frame+1 {
			t.Fatalf("behind %d: Len %d, marks %v, want %d", frame, j.Len(), j.Marks(), many)
		}
	}
}

// others are entries that differ from full in one field each.
func others(full func() api.Undo) map[string]api.Undo {
	list := map[string]func(u *api.Undo){
		"Kind":                func(u *api.Undo) { u.Kind = api.UndoRemove },
		"Kind wraps":          func(u *api.Undo) { u.Kind += 1 << 32 },
		"ID":                  func(u *api.Undo) { u.ID++ },
		"ID wraps":            func(u *api.Undo) { u.ID += 1 << 32 },
		"Part's Comp":         func(u *api.Undo) { u.Part.Comp++ },
		"Part's Values 0":     func(u *api.Undo) { u.Part.Values[0]++ },
		"Part's Values 1":     func(u *api.Undo) { u.Part.Values[1]++ },
		"Part's Values 2":     func(u *api.Undo) { u.Part.Values[2]++ },
		"Part's Values 3":     func(u *api.Undo) { u.Part.Values[3]++ },
		"Part's Tick":         func(u *api.Undo) { u.Part.Tick-- },
		"Parts fewer":         func(u *api.Undo) { u.Parts = u.Parts[:1] },
		"Parts none":          func(u *api.Undo) { u.Parts = nil },
		"Parts more":          func(u *api.Undo) { u.Parts = append(u.Parts, api.Part{}) },
		"Parts turned about":  func(u *api.Undo) { u.Parts[0], u.Parts[1] = u.Parts[1], u.Parts[0] },
		"a part's Comp":       func(u *api.Undo) { u.Parts[1].Comp++ },
		"a part's Values":     func(u *api.Undo) { u.Parts[1].Values[3]++ },
		"a part's Tick":       func(u *api.Undo) { u.Parts[0].Tick++ },
		"N":                   func(u *api.Undo) { u.N = -u.N },
		"Old":                 func(u *api.Undo) { u.Old++ },
		"Old wraps":           func(u *api.Undo) { u.Old += math.MinInt },
		"N and Old changed":   func(u *api.Undo) { u.N, u.Old = u.Old, u.N },
		"all but one is zero": func(u *api.Undo) { *u = api.Undo{Kind: u.Kind} },
	}
	entries := make(map[string]api.Undo)
	for name, change := range list {
		u := full()
		change(&u)
		entries[name] = u
	}
	return entries
}

func TestP13_1_Same(t *testing.T) {
	full := func() api.Undo {
		return api.Undo{
			Kind: api.UndoDespawn, ID: 3,
			Part:  api.Part{Comp: 1, Values: [api.MaxWidth]int{4, 5, 6, 7}, Tick: 8},
			Parts: []api.Part{{Comp: 0, Values: [api.MaxWidth]int{9}, Tick: 1}, {Comp: 2, Tick: 1}},
			N:     11, Old: 12,
		}
	}
	if !journal.Same(full(), full()) || !journal.Same(api.Undo{}, api.Undo{}) {
		t.Error("an entry isn't the same as itself")
	}
	for name, other := range others(full) {
		if journal.Same(full(), other) || journal.Same(other, full()) {
			t.Errorf("%s: the same as %+v", name, other)
		}
		if !journal.Same(other, other) {
			t.Errorf("%s: not the same as itself", name)
		}
	}
}

// TestP13_1_SameOfWhatIsNoEntry: all fields are held against each other, whatever the Kind, even where it is none.
func TestP13_1_SameOfWhatIsNoEntry(t *testing.T) {
	for _, kind := range append(append([]int{0, 10}, kinds...), ends...) {
		a := api.Undo{Kind: kind, ID: 1, Part: api.Part{Comp: 2}, Parts: []api.Part{{Comp: 3}}, N: 4, Old: 5}
		for name, b := range map[string]api.Undo{
			"ID":    {Kind: kind, ID: 9, Part: a.Part, Parts: a.Parts, N: 4, Old: 5},
			"Part":  {Kind: kind, ID: 1, Parts: a.Parts, N: 4, Old: 5},
			"Parts": {Kind: kind, ID: 1, Part: a.Part, N: 4, Old: 5},
			"N":     {Kind: kind, ID: 1, Part: a.Part, Parts: a.Parts, Old: 5},
			"Old":   {Kind: kind, ID: 1, Part: a.Part, Parts: a.Parts, N: 4},
		} {
			if journal.Same(a, b) || !journal.Same(a, a) {
				t.Errorf("kind %d: %s is not asked for, or too much is", kind, name)
			}
		}
	}
}

func TestP13_1_SameOfListsNilAndEmpty(t *testing.T) {
	a, b := despawn(1), despawn(1)
	a.Parts, b.Parts = nil, []api.Part{}
	roomyList := make([]api.Part, 0, 5)
	c := despawn(1, roomyList...)
	for _, pair := range [][2]api.Undo{{a, b}, {b, a}, {a, c}, {c, b}, {b, b}} {
		if !journal.Same(pair[0], pair[1]) {
			t.Errorf("%#v and %#v are not the same", pair[0], pair[1])
		}
	}
	one := despawn(1, api.Part{})
	if journal.Same(a, one) || journal.Same(one, b) {
		t.Error("a list of one part is the same as one of none")
	}
}

func TestP13_Nil(t *testing.T) {
	var j *journal.Journal
	for _, frame := range append([]int{0, 1, last}, ends...) {
		wants(t, fmt.Sprint("nil: Mark ", frame), j.Mark(frame), api.ErrNil)
		list, err := j.Since(frame)
		wants(t, fmt.Sprint("nil: Since ", frame), err, api.ErrNil)
		gone, err := j.Back(frame)
		wants(t, fmt.Sprint("nil: Back ", frame), err, api.ErrNil)
		if len(list) != 0 || len(gone) != 0 {
			t.Errorf("nil: Since and Back %d: %v, %v", frame, list, gone)
		}
		wantForget(t, j, frame, 0)
	}
	for _, kind := range append(append([]int{0, 10}, kinds...), ends...) {
		wants(t, fmt.Sprint("nil: Note of ", kind), j.Note(api.Undo{Kind: kind}), api.ErrNil)
	}
	wantMarks(t, "nil", j, 0)
}

func TestP13_TwoJournalsHaveNothingInCommon(t *testing.T) {
	j, k := made(t, 3, 1), made(t, 3, 1)
	note(t, j, number(api.UndoSeed, 1), cells(1, 2, 3))
	wantMarks(t, "the other one", k, 0, 1)
	wantNews(t, "the other one", k, number(api.UndoSeed, 2))
	wantNews(t, "the other one", k, cells(1, 2, 4))
	wantSince(t, j, 1, cells(1, 2, 3), number(api.UndoSeed, 1))
	wantSince(t, k, 1, cells(1, 2, 4), number(api.UndoSeed, 2))
	note(t, j, spawn(1))
	wantNoNote(t, j, spawn(2), api.ErrFull)
	note(t, k, spawn(2))
	mark(t, j, 4)
	wantUnmarked(t, k, 4, api.ErrRange)
	wantBack(t, k, 1, spawn(2), cells(1, 2, 4), number(api.UndoSeed, 2))
	wantMarks(t, "the one", j, 3, 1, 4)
	wantMarks(t, "one made later", made(t, 3), 0)
}
