package code_test

import (
	"errors"
	"fmt"
	"slices"
	"testing"

	"pasodoble/api"
	"pasodoble/blame"
	"pasodoble/code"
)

// roomy is five and a list of instructions, with room behind all lists that a call might write to or read.
func roomy(l []api.Instr) (api.Schema, []api.Instr) {
	s := five()
	s.Components = append(append(make([]api.Component, 0, 16), s.Components...), api.Component{Name: "spare", Width: 3, Rollback: true})[:comps]
	s.Resources = append(append(make([]api.Resource, 0, 8), s.Resources...), api.Resource{Name: "more"})[:ress]
	l = append(append(make([]api.Instr, 0, len(l)+8), l...), ins(99, 99, 99), ins(api.OpJump, -1))[:len(l)]
	return s, l
}

// whole is all that lists hold, the room behind them too.
func whole(s api.Schema, l []api.Instr) string {
	return fmt.Sprint(s.Components[:cap(s.Components)], s.Resources[:cap(s.Resources)], l[:cap(l)])
}

// some are lists with which nothing, and each kind of thing, is wrong.
func some() [][]api.Instr {
	return [][]api.Instr{
		nil, {ins(api.OpPush, 3), ins(api.OpPush, 4), ins(api.OpAdd)}, {ins(api.OpAdd)}, {ins(36, 1, 1)},
		{ins(api.OpLoad, look), ins(api.OpStore, pos, 2), ins(api.OpJump, 9, 1)}, make([]api.Instr, 65),
		{ins(api.OpPush), ins(api.OpZero, 3), ins(api.OpNop), ins(api.OpHalt)},
	}
}

func TestP16_2_CheckChangesNothing(t *testing.T) {
	for _, l := range some() {
		s, l := roomy(l)
		was := whole(s, l)
		first := leaves(code.Check(s, l))
		if now := whole(s, l); now != was {
			t.Errorf("handed in was %s, now %s", was, now)
		}
		if again := leaves(code.Check(s, l)); !slices.Equal(again, first) {
			t.Errorf("%v: %v, first %v", l, again, first)
		}
	}
}

// TestP16_2_CheckReadsNothingBehindTheEnd: what spare room holds isn't there.
func TestP16_2_CheckReadsNothingBehindTheEnd(t *testing.T) {
	for _, x := range []api.Instr{ins(api.OpLoad, comps), ins(api.OpStore, comps), ins(api.OpInsert, comps), ins(api.OpRes, ress)} {
		s, l := roomy(list(x))
		wantCheck(t, "behind the end", s, l, "code/0/a 1")
	}
	s, l := roomy(nil)
	wantCheck(t, "none", s, l)
}

// TestP16_2_CheckAnswersNewErrors: who changes one changes no other one, handed in or answered.
func TestP16_2_CheckAnswersNewErrors(t *testing.T) {
	l := list(ins(api.OpPush, 0, 1), ins(api.OpAdd, 1, 1))
	kept := code.Check(five(), l)
	want := leaves(kept)
	var several *blame.Several
	err := code.Check(five(), l)
	if !errors.As(err, &several) {
		t.Fatal(err)
	}
	for _, one := range several.Errs {
		for b := new(blame.Blame); errors.As(one, &b); one = b.Err {
			b.Where = "x"
		}
	}
	clear(several.Errs)
	l[0] = ins(api.OpNop)
	l[1] = ins(99)
	if got := leaves(kept); !slices.Equal(got, want) || len(want) != 3 {
		t.Errorf("the error ahead is %v, was %v", got, want)
	}
	wantCheck(t, "again", five(), list(ins(api.OpPush, 0, 1)), "code/0/b 1")
	wantCheck(t, "as it is now", five(), l, "code/1/op 14")
}

func TestP16_3_DepthsChangeNothing(t *testing.T) {
	for _, l := range some() {
		s, l := roomy(l)
		was := whole(s, l)
		first, told := code.Depths(l)
		if now := whole(s, l); now != was {
			t.Errorf("handed in was %s, now %s", was, now)
		}
		if again, ok := code.Depths(l); ok != told || !slices.Equal(again, first) {
			t.Errorf("%v: %v, first %v", l, again, first)
		}
	}
}

// TestP16_3_DepthsAreNewMemory: who changes what was answered, or grows it, or changes the list, changes no answer.
func TestP16_3_DepthsAreNewMemory(t *testing.T) {
	l := list(ins(api.OpPush), ins(api.OpPush), ins(api.OpAdd), ins(api.OpHalt))
	want := []int{0, 1, 2, 1, -1}
	kept, _ := code.Depths(l)
	for range 2 {
		got, _ := code.Depths(l)
		got = got[:cap(got)]
		for i := range got {
			got[i] = 9
		}
		_ = append(got, 9)
		wantDepths(t, "again", l, want...)
	}
	l[0] = ins(api.OpDrop)
	wantUntold(t, "as it is now", l)
	if !slices.Equal(kept, want) {
		t.Errorf("the answer ahead is %v, was %v", kept, want)
	}
}
