package journal_test

import (
	"fmt"
	"testing"

	"pasodoble/api"
	"pasodoble/journal"
)

// five is a journal with the marks 2, 3, 7, 8 and 20; behind them 2, 0, 1, 3 and 1 entries, spawns of 1 to 7.
func five(t *testing.T) *journal.Journal {
	t.Helper()
	j := made(t, roomy, 2)
	note(t, j, spawn(1), spawn(2))
	mark(t, j, 3)
	mark(t, j, 7)
	note(t, j, spawn(3))
	mark(t, j, 8)
	note(t, j, spawn(4), spawn(5), spawn(6))
	mark(t, j, 20)
	note(t, j, spawn(7))
	return j
}

// down is spawns of these numbers, falling, both ends among them.
func down(from, to int) []api.Undo {
	var list []api.Undo
	for id := from; id >= to; id-- {
		list = append(list, spawn(id))
	}
	return list
}

// firsts are five's marks, each with the number of the first entry behind it.
var firsts = []struct{ frame, first int }{{2, 1}, {3, 3}, {7, 3}, {8, 4}, {20, 7}}

func TestP13_3_Since(t *testing.T) {
	j := five(t)
	for range 2 {
		for _, m := range firsts {
			wantSince(t, j, m.frame, down(7, m.first)...)
		}
	}
	wantMarks(t, "Since changes nothing", j, 7, 2, 3, 7, 8, 20)
	mark(t, j, 21)
	wantSince(t, j, 21)
	wantSince(t, j, 20, spawn(7))
}

func TestP13_3_FramesThatAreNotMarked(t *testing.T) {
	for _, frame := range append([]int{0, 1, 4, 5, 6, 9, 19, 21, last - 1, last}, ends...) {
		wantUnmarked(t, five(t), frame, api.ErrRange)
		wantUnmarked(t, made(t, roomy), frame, api.ErrRange)
	}
	wantUnmarked(t, made(t, roomy, 1), 0, api.ErrRange)
	wantUnmarked(t, made(t, roomy, 0), 1, api.ErrRange)
	wantUnmarked(t, made(t, roomy, last), last-1, api.ErrRange)
}

func TestP13_3_Back(t *testing.T) {
	frames := []int{2, 3, 7, 8, 20}
	for i, m := range firsts {
		j := five(t)
		wantBack(t, j, m.frame, down(7, m.first)...)
		wantMarks(t, fmt.Sprint("Back ", m.frame), j, m.first-1, frames[:i+1]...)
		for _, lower := range firsts[:i+1] {
			wantSince(t, j, lower.frame, down(m.first-1, lower.first)...)
		}
		for _, gone := range firsts[i+1:] {
			wantUnmarked(t, j, gone.frame, api.ErrRange)
		}
		wantBack(t, j, m.frame)
		wantMarks(t, fmt.Sprint("Back ", m.frame, " twice"), j, m.first-1, frames[:i+1]...)
		note(t, j, spawn(90))
		mark(t, j, m.frame+1)
		note(t, j, spawn(91))
		wantSince(t, j, 2, append([]api.Undo{spawn(91), spawn(90)}, down(m.first-1, 1)...)...)
		wantMarks(t, "it goes on", j, m.first+1, append(frames[:i+1:i+1], m.frame+1)...)
	}
}

// TestP13_3_BackAnswersAsSince: with the same entries in the same order, at every mark.
func TestP13_3_BackAnswersAsSince(t *testing.T) {
	for _, m := range firsts {
		j := five(t)
		since, err := j.Since(m.frame)
		if err != nil {
			t.Error(err)
		}
		wantBack(t, j, m.frame, since...)
	}
}

func TestP13_3_Forget(t *testing.T) {
	frames := []int{2, 3, 7, 8, 20}
	for _, c := range []struct{ frame, gone, marks int }{
		{-1, 0, 0}, {0, 0, 0}, {1, 0, 0}, {2, 0, 0}, {3, 2, 1}, {4, 2, 2}, {6, 2, 2}, {7, 2, 2}, {8, 3, 3},
		{9, 6, 4}, {19, 6, 4}, {20, 6, 4}, {21, 6, 4}, {last, 6, 4},
	} {
		j := five(t)
		wantForget(t, j, c.frame, c.gone)
		wantMarks(t, fmt.Sprint("Forget ", c.frame), j, 7-c.gone, frames[c.marks:]...)
		for _, m := range firsts[:c.marks] {
			wantUnmarked(t, j, m.frame, api.ErrRange)
		}
		for _, m := range firsts[c.marks:] {
			wantSince(t, j, m.frame, down(7, m.first)...)
		}
		wantForget(t, j, c.frame, 0)
		wantMarks(t, fmt.Sprint("Forget ", c.frame, " twice"), j, 7-c.gone, frames[c.marks:]...)
		wantSince(t, j, 20, spawn(7))
	}
}

func TestP13_3_ForgetOfBothEnds(t *testing.T) {
	for _, frame := range ends {
		j := five(t)
		if frame < 0 {
			wantForget(t, j, frame, 0)
			wantMarks(t, fmt.Sprint("Forget ", frame), j, 7, 2, 3, 7, 8, 20)
			continue
		}
		wantForget(t, j, frame, 6)
		wantMarks(t, fmt.Sprint("Forget ", frame), j, 1, 20)
		wantSince(t, j, 20, spawn(7))
	}
}

func TestP13_3_ForgetOfOneMarkAndOfNone(t *testing.T) {
	for _, frame := range append([]int{0, 4, 5, 6, last}, ends...) {
		none := made(t, roomy)
		wantForget(t, none, frame, 0)
		wantMarks(t, "none", none, 0)
		one := made(t, roomy, 5)
		note(t, one, spawn(1), spawn(2))
		wantForget(t, one, frame, 0)
		wantMarks(t, "one", one, 2, 5)
		wantSince(t, one, 5, spawn(2), spawn(1))
	}
}

func TestP13_3_ForgetOneByOne(t *testing.T) {
	j := five(t)
	for _, c := range []struct{ frame, gone int }{{3, 2}, {7, 0}, {8, 1}, {20, 3}, {21, 0}} {
		wantForget(t, j, c.frame, c.gone)
	}
	wantMarks(t, "all but the last", j, 1, 20)
	mark(t, j, 21)
	wantForget(t, j, 21, 1)
	wantMarks(t, "the last one isn't any more", j, 0, 21)
	note(t, j, spawn(8))
	wantBack(t, j, 21, spawn(8))
	wantMarks(t, "back", j, 0, 21)
}

func TestP13_3_ForgetThenBack(t *testing.T) {
	j := five(t)
	wantForget(t, j, 7, 2)
	wantBack(t, j, 8, down(7, 4)...)
	wantMarks(t, "both", j, 1, 7, 8)
	wantSince(t, j, 7, spawn(3))
	wantForget(t, j, last, 1)
	wantMarks(t, "and forgotten", j, 0, 8)
	wantBack(t, j, 8)
	wantNoMark(t, j, 8, api.ErrArg)
}

// spoil changes all that a row of entries holds, and its spare room.
func spoil(list []api.Undo) {
	for i := range list[:cap(list)] {
		u := &list[:cap(list)][i]
		for k := range u.Parts[:cap(u.Parts)] {
			u.Parts[:cap(u.Parts)][k] = api.Part{Comp: -9, Tick: -9}
		}
		*u = api.Undo{Kind: -9, ID: -9}
	}
}

func TestP13_AnswersAreNewMemory(t *testing.T) {
	a, b, c := api.Part{Comp: 1, Tick: 2}, api.Part{Comp: 3, Tick: 4}, api.Part{Comp: 5}
	fresh := func() []api.Undo { return []api.Undo{despawn(3, c), despawn(2, b, a), despawn(1, a, b, c)} }
	j := made(t, roomy, 0)
	note(t, j, despawn(1, a, b, c), despawn(2, b, a))
	mark(t, j, 1)
	note(t, j, despawn(3, c))
	first, _ := j.Since(0)
	second, _ := j.Since(0)
	spoil(first)
	wantList(t, "another answer", second, nil, fresh())
	wantSince(t, j, 0, fresh()...)
	marks := j.Marks()
	for i := range marks[:cap(marks)] {
		marks[:cap(marks)][i] = -9
	}
	wantMarks(t, "a row of Marks was changed", j, 3, 0, 1)
	wantBack(t, j, 1, despawn(3, c))
	note(t, j, despawn(3, c))
	wantList(t, "behind Back and Note", second, nil, fresh())
	back, _ := j.Back(0)
	note(t, j, despawn(7, a, a), despawn(8, b))
	wantList(t, "Back's, behind Note", back, nil, fresh())
	spoil(back)
	wantSince(t, j, 0, despawn(8, b), despawn(7, a, a))
}

// TestP13_ListsOfOneAnswerShareNothing: what is added to one entry's parts is seen in no other one's.
func TestP13_ListsOfOneAnswerShareNothing(t *testing.T) {
	a, b := api.Part{Comp: 1}, api.Part{Comp: 2}
	shared := []api.Part{a, b}
	j := made(t, roomy, 0)
	note(t, j, despawn(1, shared...), despawn(2, shared[:1]...), despawn(3, shared...))
	for _, tell := range []func(int) ([]api.Undo, error){j.Since, j.Back} {
		list, err := tell(0)
		if err != nil || len(list) != 3 {
			t.Fatal(list, err)
		}
		list[0].Parts[0].Comp = 77
		_ = append(list[1].Parts, api.Part{Comp: 78})
		wantList(t, "the others", list[1:], nil, []api.Undo{despawn(2, a), despawn(1, a, b)})
	}
	if shared[0] != a || shared[1] != b {
		t.Error("the list that was handed in was changed:", shared)
	}
}

func TestP13_NoteKeepsNoList(t *testing.T) {
	a, b := api.Part{Comp: 1, Tick: 2}, api.Part{Comp: 3, Tick: 4}
	whole := []api.Part{a, b, {Comp: 77}, {Comp: 78}}
	j := made(t, roomy, 0)
	note(t, j, despawn(1, whole[:2]...), api.Undo{Kind: api.UndoRemove, ID: 2, Parts: whole[1:2]})
	want := []api.Undo{{Kind: api.UndoRemove, ID: 2, Parts: []api.Part{b}}, despawn(1, a, b)}
	wantSince(t, j, 0, want...)
	if whole[2].Comp != 77 || whole[3].Comp != 78 {
		t.Error("the spare room was changed:", whole)
	}
	clear(whole)
	wantSince(t, j, 0, want...)
	wantBack(t, j, 0, want...)
	for _, part := range whole {
		if part != (api.Part{}) {
			t.Error("the list that was handed in was changed:", whole)
		}
	}
}
