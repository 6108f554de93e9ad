package journal_test

import (
	"fmt"
	"testing"

	"pasodoble/api"
	"pasodoble/journal"
)

func TestP13_2_MarkOfEachFrameThatCanBe(t *testing.T) {
	for _, frame := range []int{0, 1, 2, 800, last - 1, last} {
		j := made(t, roomy, frame)
		wantMarks(t, fmt.Sprint("Mark ", frame), j, 0, frame)
		wantSince(t, j, frame)
	}
}

func TestP13_2_MarkOfNoFrame(t *testing.T) {
	for _, j := range []*journal.Journal{made(t, roomy), made(t, roomy, 0), made(t, roomy, 3, 7), made(t, roomy, last)} {
		for _, frame := range ends {
			wantNoMark(t, j, frame, api.ErrArg)
		}
	}
}

func TestP13_2_MarkOnlyAboveAllMarks(t *testing.T) {
	j := made(t, roomy, 3, 7)
	note(t, j, spawn(1))
	for _, frame := range []int{0, 2, 3, 4, 6, 7} {
		wantNoMark(t, j, frame, api.ErrArg)
	}
	mark(t, j, 8)
	mark(t, j, last)
	wantNoMark(t, j, last, api.ErrArg)
	wantNoMark(t, j, 0, api.ErrArg)
	wantMarks(t, "behind all", j, 1, 3, 7, 8, last)
}

func TestP13_2_MarkAgainOfWhatBackTookAway(t *testing.T) {
	j := made(t, roomy, 3, 7, 8, last)
	wantBack(t, j, 7)
	wantNoMark(t, j, 7, api.ErrArg)
	wantNoMark(t, j, 5, api.ErrArg)
	mark(t, j, 8)
	mark(t, j, last)
	wantMarks(t, "marked again", j, 0, 3, 7, 8, last)
	wantBack(t, j, 3)
	for _, frame := range []int{4, 5, 7, 9} {
		mark(t, j, frame)
	}
	wantMarks(t, "others", j, 0, 3, 4, 5, 7, 9)
}

// TestP13_2_MarkAgainOfWhatForgetTookAway: the last mark always stays, so none below it can be marked again.
func TestP13_2_MarkAgainOfWhatForgetTookAway(t *testing.T) {
	j := made(t, roomy, 3, 7, 9)
	wantForget(t, j, 9, 0)
	for _, frame := range []int{3, 7, 8, 9} {
		wantNoMark(t, j, frame, api.ErrArg)
	}
	wantForget(t, j, last, 0)
	wantNoMark(t, j, 9, api.ErrArg)
	mark(t, j, 10)
	wantMarks(t, "one more", j, 0, 9, 10)
}

// raw is an entry of a kind with something in every field.
func raw(kind int) api.Undo {
	return api.Undo{
		Kind: kind, ID: 7, Part: api.Part{Comp: 3, Values: [api.MaxWidth]int{1, -2, 3, -4}, Tick: 5},
		Parts: []api.Part{{Comp: 1, Tick: 2}, {Comp: 9, Tick: 4}}, N: 6, Old: -8,
	}
}

func TestP13_2_NoteOfEachKind(t *testing.T) {
	j := made(t, roomy, 2)
	var want []api.Undo
	for _, kind := range kinds {
		alone := made(t, 1, 0)
		wantNews(t, fmt.Sprint("alone ", kind), alone, raw(kind))
		wantSince(t, alone, 0, raw(kind))
		mark(t, j, 2+kind)
		wantNews(t, fmt.Sprint("behind others ", kind), j, raw(kind))
		want = append([]api.Undo{raw(kind)}, want...)
		wantSince(t, j, 2, want...)
	}
}

// TestP13_2_NoteOfAnyFields: but for the Kind, an entry may hold anything, and is told as it was.
func TestP13_2_NoteOfAnyFields(t *testing.T) {
	for _, kind := range kinds {
		for _, n := range ends {
			u := api.Undo{
				Kind: kind, ID: n, Part: api.Part{Comp: n, Values: [api.MaxWidth]int{n, n, n, n}, Tick: n},
				Parts: []api.Part{{Comp: n, Tick: n}, {Comp: n, Tick: n}}, N: n, Old: n,
			}
			j := made(t, 2, 0)
			wantNews(t, fmt.Sprint(kind, " of ", n), j, u)
			wantSince(t, j, 0, u)
		}
	}
}

func TestP13_2_NoteOfNoKind(t *testing.T) {
	full := made(t, 1, 0)
	note(t, full, spawn(1))
	for _, j := range []*journal.Journal{made(t, roomy, 0), made(t, roomy, 3, 4), full} {
		for _, kind := range append([]int{0, api.UndoFrame + 1, 1<<32 + api.UndoSeed, 256 + 1}, ends...) {
			wantNoNote(t, j, raw(kind), api.ErrArg)
		}
	}
}

func TestP13_2_NoteAheadOfAnyMark(t *testing.T) {
	j := made(t, roomy)
	for _, kind := range kinds {
		wantNoNote(t, j, raw(kind), api.ErrState)
	}
	mark(t, j, 0)
	for _, kind := range kinds {
		wantNews(t, "behind a mark, none of these is known", made(t, 1, 0), raw(kind))
	}
	note(t, j, spawn(1))
	wantMarks(t, "marked", j, 1, 0)
}

func TestP13_2_InWhichOrderErrorsAreTold(t *testing.T) {
	wantNoNote(t, made(t, 1), raw(0), api.ErrArg)
	wantNoNote(t, made(t, 1), raw(10), api.ErrArg)
	wantNoNote(t, made(t, 1), raw(api.UndoSeed), api.ErrState)
	j := made(t, 1, 0)
	note(t, j, number(api.UndoSeed, 1))
	wantNoNote(t, j, raw(0), api.ErrArg)
	wantNoNote(t, j, raw(10), api.ErrArg)
	wantNoNews(t, "full", j, number(api.UndoSeed, 2))
	wantNoNote(t, j, number(api.UndoFrame, 2), api.ErrFull)
}

// known is an entry with one that makes it say nothing new, or doesn't.
type known struct {
	name   string
	ahead  api.Undo
	behind api.Undo
	news   bool
}

// pairs are entries behind each other in one stretch, as the chapter's words say of each kind.
func pairs() []known {
	list := []known{
		{"cells, the same", cells(1, 2, 3), cells(1, 2, 3), false},
		{"cells, another value", cells(1, 2, 3), cells(1, 2, 4), false},
		{"cells, another Comp", cells(1, 2, 3), cells(1, 3, 3), true},
		{"cells, another ID", cells(1, 2, 3), cells(2, 2, 3), true},
		{"cells, ID and Comp changed", cells(1, 2, 3), cells(2, 1, 3), true},
		{"cells behind insert", insert(1, 2), cells(1, 2, 3), false},
		{"cells behind insert of another Comp", insert(1, 3), cells(1, 2, 3), true},
		{"cells behind insert of another ID", insert(2, 2), cells(1, 2, 3), true},
		{"cells behind spawn", spawn(1), cells(1, 2, 3), false},
		{"cells behind spawn, another Comp", spawn(1), cells(1, 15, 3), false},
		{"cells behind spawn of another ID", spawn(2), cells(1, 2, 3), true},
		{"cells behind despawn", despawn(1, api.Part{Comp: 2}), cells(1, 2, 3), true},
		{"cells behind remove", remove(1, 2, 3), cells(1, 2, 3), true},
		{"insert behind cells", cells(1, 2, 3), insert(1, 2), true},
		{"insert behind insert", insert(1, 2), insert(1, 2), true},
		{"insert behind spawn", spawn(1), insert(1, 2), true},
		{"remove behind cells", cells(1, 2, 3), remove(1, 2, 3), true},
		{"remove behind insert", insert(1, 2), remove(1, 2, 3), true},
		{"remove behind spawn", spawn(1), remove(1, 2, 3), true},
		{"remove behind remove", remove(1, 2, 3), remove(1, 2, 3), true},
		{"spawn behind spawn", spawn(1), spawn(1), true},
		{"spawn behind cells", cells(1, 2, 3), spawn(1), true},
		{"despawn behind spawn", spawn(1), despawn(1), true},
		{"despawn behind despawn", despawn(1), despawn(1), true},
		{"despawn behind cells", cells(1, 2, 3), despawn(1), true},
		{"resource, the same", resource(1, 5), resource(1, 5), false},
		{"resource, another Old", resource(1, 5), resource(1, 6), false},
		{"resource, another N", resource(1, 5), resource(2, 5), true},
		{"resource 0", resource(0, 5), resource(0, 0), false},
		{"resource behind cells", cells(1, 1, 1), resource(1, 1), true},
		{"cells behind resource", resource(1, 1), cells(1, 1, 1), true},
	}
	once := []int{api.UndoNext, api.UndoSeed, api.UndoFrame}
	for _, a := range once {
		for _, b := range once {
			list = append(list, known{fmt.Sprint(b, " behind ", a), number(a, 1), number(b, 2), a != b})
		}
		list = append(list,
			known{fmt.Sprint(a, " behind resource 0"), resource(0, 1), number(a, 1), true},
			known{fmt.Sprint("resource 0 behind ", a), number(a, 1), resource(0, 1), true},
			known{fmt.Sprint(a, " behind spawn"), spawn(0), number(a, 1), true},
			known{fmt.Sprint("cells behind ", a), number(a, 1), cells(0, 0, 0), true},
		)
	}
	return list
}

func wantPair(t *testing.T, name string, j *journal.Journal, p known) {
	t.Helper()
	wantNews(t, name+", the one ahead", j, p.ahead)
	if p.news {
		wantNews(t, name, j, p.behind)
	} else {
		wantNoNews(t, name, j, p.behind)
	}
}

func TestP13_2_WhatSaysNothingNew(t *testing.T) {
	for _, p := range pairs() {
		wantPair(t, p.name, made(t, roomy, 0), p)
	}
}

// TestP13_2_OthersBetween: the whole last stretch is gone through, not its last entry alone.
func TestP13_2_OthersBetween(t *testing.T) {
	between := []api.Undo{spawn(50), despawn(51), remove(52, 1, 1), resource(53, 1), cells(54, 1, 1), insert(55, 1)}
	for _, p := range pairs() {
		j := made(t, roomy, 0)
		note(t, j, between...)
		note(t, j, p.ahead)
		for _, u := range between {
			u.ID, u.N = u.ID+10, u.N+10
			note(t, j, u)
		}
		if p.news {
			wantNews(t, p.name, j, p.behind)
		} else {
			wantNoNews(t, p.name, j, p.behind)
		}
	}
}

// TestP13_2_FieldsThatSayNothing: what a kind gives no meaning is not asked for, whatever it holds.
func TestP13_2_FieldsThatSayNothing(t *testing.T) {
	for _, kind := range []int{api.UndoNext, api.UndoSeed, api.UndoFrame, api.UndoResource, api.UndoCells} {
		j := made(t, roomy, 0)
		note(t, j, raw(kind))
		u := raw(kind)
		u.Old, u.Part.Values, u.Part.Tick, u.Parts = 99, [api.MaxWidth]int{9}, 99, nil
		if kind != api.UndoResource {
			u.N = 99
		}
		if kind != api.UndoCells {
			u.ID, u.Part.Comp = 99, 99
		}
		wantNoNews(t, fmt.Sprint("kind ", kind), j, u)
	}
	j := made(t, roomy, 0)
	u := raw(api.UndoSpawn)
	u.Part.Comp, u.N = 1<<32, -5
	note(t, j, u)
	wantNoNews(t, "behind a spawn with a Part", j, cells(u.ID, 4, 1))
	u = raw(api.UndoInsert)
	u.ID = 8
	note(t, j, u)
	wantNoNews(t, "behind an insert with Parts", j, cells(8, u.Part.Comp, 1))
	wantNews(t, "of the insert's Parts", j, cells(8, u.Parts[0].Comp, 1))
}

// TestP13_2_NumbersThatWrap: an ID, a Comp and an N are asked for whole, not their lowest bits.
func TestP13_2_NumbersThatWrap(t *testing.T) {
	j := made(t, roomy, 0)
	for _, n := range append([]int{0, 1, 64, 256}, ends...) {
		for _, m := range append([]int{0, 1}, ends...) {
			wantNews(t, "cells", j, cells(n, m, 1))
			wantNoNews(t, "cells", j, cells(n, m, 2))
		}
		wantNews(t, "resource", j, resource(n, 1))
		wantNoNews(t, "resource", j, resource(n, 2))
	}
}

func TestP13_2_ANewMarkMakesItNew(t *testing.T) {
	for _, p := range pairs() {
		j := made(t, roomy, 0)
		note(t, j, p.ahead, p.behind)
		mark(t, j, 1)
		wantNews(t, p.name+", behind a new mark", j, p.behind)
		mark(t, j, 2)
		wantPair(t, p.name+", behind one more", j, p)
	}
}

func TestP13_2_BackMakesItNew(t *testing.T) {
	for _, p := range pairs() {
		j := made(t, roomy, 4)
		note(t, j, p.ahead, p.behind)
		mark(t, j, 5)
		note(t, j, p.ahead)
		if _, err := j.Back(5); err != nil {
			t.Error(err)
		}
		wantNews(t, p.name+", behind Back of the last mark", j, p.behind)
		if _, err := j.Back(4); err != nil {
			t.Error(err)
		}
		wantPair(t, p.name+", behind Back of the first mark", j, p)
	}
}

// TestP13_2_ForgetLeavesTheLastStretchKnown: what is behind the last mark stays, and what it says is known still.
func TestP13_2_ForgetLeavesTheLastStretchKnown(t *testing.T) {
	for _, p := range pairs() {
		j := made(t, roomy, 4)
		note(t, j, p.ahead)
		mark(t, j, 6)
		note(t, j, p.ahead)
		wantForget(t, j, last, 1)
		if p.news {
			wantNews(t, p.name+", behind Forget", j, p.behind)
		} else {
			wantNoNews(t, p.name+", behind Forget", j, p.behind)
		}
		empty := made(t, roomy, 4)
		note(t, empty, p.ahead)
		mark(t, empty, 6)
		wantForget(t, empty, 5, 1)
		wantPair(t, p.name+", the stretch that knew it is forgotten", empty, p)
	}
}

// TestP13_2_BackDoesNotComeToAnOldStretch: the frame that is gone back to has nothing behind it, even if its stretch,
// when it was the last one, knew something.
func TestP13_2_BackDoesNotComeToAnOldStretch(t *testing.T) {
	j := made(t, roomy, 1)
	note(t, j, number(api.UndoSeed, 1), spawn(3))
	mark(t, j, 2)
	note(t, j, number(api.UndoNext, 1))
	wantBack(t, j, 1, number(api.UndoNext, 1), spawn(3), number(api.UndoSeed, 1))
	wantNews(t, "back", j, number(api.UndoSeed, 2))
	wantNews(t, "back", j, number(api.UndoNext, 2))
	wantNews(t, "back", j, cells(3, 1, 1))
}

func TestP13_2_FullOfEachKind(t *testing.T) {
	for _, p := range pairs() {
		j := made(t, 1, 0)
		note(t, j, p.ahead)
		if p.news {
			wantNoNote(t, j, p.behind, api.ErrFull)
		} else {
			wantNoNews(t, p.name+", full", j, p.behind)
		}
		mark(t, j, 1)
		wantNoNote(t, j, p.behind, api.ErrFull)
		wantForget(t, j, 1, 1)
		wantNews(t, p.name+", behind Forget", j, p.behind)
	}
}

// TestP13_2_WhatIsRefusedIsNotKnown: an entry that found no room is news when there is room again.
func TestP13_2_WhatIsRefusedIsNotKnown(t *testing.T) {
	j := made(t, 2, 0)
	note(t, j, spawn(1))
	mark(t, j, 1)
	note(t, j, cells(5, 1, 1))
	wantNoNote(t, j, number(api.UndoSeed, 7), api.ErrFull)
	wantNoNote(t, j, insert(6, 1), api.ErrFull)
	wantForget(t, j, 1, 1)
	wantNews(t, "there is room again", j, number(api.UndoSeed, 8))
	wantNoNews(t, "known now", j, number(api.UndoSeed, 9))
	wantNoNote(t, j, cells(6, 1, 1), api.ErrFull)
	wantSince(t, j, 1, number(api.UndoSeed, 8), cells(5, 1, 1))
}

// TestP13_2_RoomIsOfAllStretches: most is counted over all marks, and Back gives room again.
func TestP13_2_RoomIsOfAllStretches(t *testing.T) {
	j := made(t, 3)
	for frame := range 3 {
		mark(t, j, frame)
		note(t, j, number(api.UndoFrame, frame))
	}
	mark(t, j, 3)
	wantNoNote(t, j, number(api.UndoFrame, 3), api.ErrFull)
	wantBack(t, j, 1, number(api.UndoFrame, 2), number(api.UndoFrame, 1))
	note(t, j, spawn(1), spawn(2))
	wantNoNote(t, j, spawn(3), api.ErrFull)
	wantMarks(t, "full again", j, 3, 0, 1)
}
