package code_test

import (
	"fmt"
	"math"
	"slices"
	"testing"

	"pasodoble/api"
	"pasodoble/code"
)

// wantDepths asks that Depths tells just these.
func wantDepths(t *testing.T, name string, l []api.Instr, want ...int) {
	t.Helper()
	if got, ok := code.Depths(l); !ok || !slices.Equal(got, want) {
		t.Errorf("%s: Depths %v: %v, %v, want %v", name, cut(l), got[:min(len(got), 70)], ok, want[:min(len(want), 70)])
	}
}

// wantUntold asks that Depths can't tell, and answers nothing beside that.
func wantUntold(t *testing.T, name string, l []api.Instr) {
	t.Helper()
	if got, ok := code.Depths(l); ok || len(got) != 0 {
		t.Errorf("%s: Depths %v: %v, %v", name, cut(l), got[:min(len(got), 70)], ok)
	}
}

// pushes is code that lays so many numbers.
func pushes(many int) []api.Instr { return slices.Repeat(list(ins(api.OpPush, 1)), many) }

func TestP16_3_DepthsOfOrdinaryCode(t *testing.T) {
	wantDepths(t, "none", nil, 0)
	wantDepths(t, "empty", list(), 0)
	wantDepths(t, "the example", list(ins(api.OpPush, 3), ins(api.OpPush, 4), ins(api.OpAdd)), 0, 1, 2, 1)
	wantUntold(t, "the other example", list(ins(api.OpPush, 3), ins(api.OpAdd)))
	wantDepths(t, "of each kind", list(
		ins(api.OpLoad), ins(api.OpDup), ins(api.OpOver), ins(api.OpSwap), ins(api.OpRand), ins(api.OpMul), ins(api.OpStore),
		ins(api.OpSetRes), ins(api.OpSpawn), ins(api.OpID),
	), 0, 1, 2, 3, 3, 3, 2, 1, 0, 0, 1)
	wantDepths(t, "nops", make([]api.Instr, 3), 0, 0, 0, 0)
}

// TestP16_3_DepthsOfEachOperation, with so much on the stack ahead of it: the place behind it has what it leaves.
func TestP16_3_DepthsOfEachOperation(t *testing.T) {
	for _, r := range table {
		for many := range api.MaxStack + 1 {
			// Both ways of zero, and jump's, are the end, so that nothing is met twice.
			x := ins(r.op)
			if r.word == "jump" || r.word == "zero" {
				x.A = many + 1
			}
			l := append(pushes(many), x)
			name := fmt.Sprint(r.word, " on ", many)
			if many < r.takes || many-r.takes+r.lays > 16 {
				wantUntold(t, name, l)
				continue
			}
			want := []int{}
			for n := range many + 1 {
				want = append(want, n)
			}
			if r.word == "halt" {
				want = append(want, -1)
			} else {
				want = append(want, many-r.takes+r.lays)
			}
			wantDepths(t, name, l, want...)
		}
	}
}

func TestP16_3_DepthsUpToMaxStack(t *testing.T) {
	wantDepths(t, "just full", pushes(16), 0, 1, 2, 3, 4, 5, 6, 7, 8, 9, 10, 11, 12, 13, 14, 15, 16)
	wantUntold(t, "one more", pushes(17))
	full := append(pushes(16), ins(api.OpSwap), ins(api.OpNop), ins(api.OpDrop), ins(api.OpOver), ins(api.OpNot), ins(api.OpAdd))
	wantDepths(t, "on it goes", full, 0, 1, 2, 3, 4, 5, 6, 7, 8, 9, 10, 11, 12, 13, 14, 15, 16, 16, 16, 15, 16, 16, 15)
	for _, op := range []int{
		api.OpPush, api.OpDup, api.OpOver, api.OpLoad, api.OpHas, api.OpInput, api.OpRes, api.OpID, api.OpFrame,
	} {
		wantUntold(t, "one more", append(pushes(16), ins(op)))
		if d, ok := code.Depths(append(pushes(15), ins(op))); !ok || d[16] != 16 {
			t.Errorf("%d: %v", op, d)
		}
	}
	wantUntold(t, "and less again", append(pushes(17), ins(api.OpDrop)))
	wantUntold(t, "round and round", list(ins(api.OpPush), ins(api.OpDup), ins(api.OpJump, 1)))
}

func TestP16_3_DepthsOfPlacesNeverComeTo(t *testing.T) {
	wantDepths(t, "halt", list(ins(api.OpHalt)), 0, -1)
	wantDepths(t, "halts", list(ins(api.OpHalt), ins(api.OpHalt), ins(api.OpHalt)), 0, -1, -1, -1)
	wantDepths(t, "jumped over", list(ins(api.OpJump, 2), ins(api.OpAdd)), 0, -1, 0)
	wantDepths(t, "to itself", list(ins(api.OpJump, 0)), 0, -1)
	wantDepths(t, "round and round", list(ins(api.OpNop), ins(api.OpJump, 0)), 0, 0, -1)
	wantDepths(t, "two of two", list(ins(api.OpPush), ins(api.OpZero, 3), ins(api.OpHalt), ins(api.OpHalt), ins(api.OpNop)), 0, 1, 0, 0, -1, -1)
	wantDepths(t, "each other", list(ins(api.OpHalt), ins(api.OpJump, 2), ins(api.OpJump, 1)), 0, -1, -1, -1)
}

// TestP16_3_DepthsOfWhatIsWrongButNeverComeTo: only what isn't there, or leads nowhere, is refused there too.
func TestP16_3_DepthsOfWhatIsWrongButNeverComeTo(t *testing.T) {
	for name, x := range map[string]api.Instr{
		"too little": ins(api.OpAdd), "a wrong A": ins(api.OpHas, -1), "a wrong B": ins(api.OpStore, 0, 99),
		"what isn't read": ins(api.OpNop, 7, 7), "unlike": ins(api.OpJump, 1), "to what is come to": ins(api.OpZero, 0),
	} {
		wantDepths(t, name, list(ins(api.OpPush), ins(api.OpHalt), x), 0, 1, -1, -1)
		wantDepths(t, name, list(ins(api.OpPush), ins(api.OpJump, 3), x), 0, 1, -1, 1)
	}
	wantDepths(t, "too much", append(list(ins(api.OpHalt)), pushes(17)...), slices.Concat([]int{0}, slices.Repeat([]int{-1}, 18))...)
	for _, op := range noOps {
		wantUntold(t, "no operation", list(ins(api.OpHalt), ins(op)))
		wantUntold(t, "no operation", list(ins(api.OpJump, 2), ins(op), ins(api.OpNop)))
	}
	for _, place := range append([]int{-1, 3, 4}, ends...) {
		wantUntold(t, "nowhere", list(ins(api.OpHalt), ins(api.OpJump, place)))
		wantUntold(t, "nowhere", list(ins(api.OpHalt), ins(api.OpZero, place)))
	}
}

func TestP16_3_DepthsOfWhatIsNotThere(t *testing.T) {
	for _, op := range noOps {
		wantUntold(t, "alone", list(ins(op)))
		wantUntold(t, "behind", list(ins(api.OpPush), ins(op)))
	}
	for _, op := range []int{api.OpJump, api.OpZero} {
		for _, place := range append([]int{-1, 3, 4}, ends...) {
			wantUntold(t, "nowhere", list(ins(api.OpPush), ins(op, place)))
		}
	}
	wantDepths(t, "to the end", list(ins(api.OpPush), ins(api.OpJump, 2)), 0, 1, 1)
	wantDepths(t, "to the end", list(ins(api.OpPush), ins(api.OpZero, 2)), 0, 1, 0)
}

// TestP16_3_DepthsAskNothingElse of A and B than where one jumps to.
func TestP16_3_DepthsAskNothingElse(t *testing.T) {
	for _, r := range table {
		if r.word == "jump" || r.word == "zero" {
			continue
		}
		for _, n := range append([]int{-1, 1, 64}, ends...) {
			got, ok := code.Depths(append(pushes(2), ins(r.op, n, -n)))
			want, wanted := code.Depths(append(pushes(2), ins(r.op)))
			if !ok || !wanted || !slices.Equal(got, want) {
				t.Errorf("%s %d: %v, %v, want %v", r.word, n, got, ok, want)
			}
		}
	}
	wantDepths(t, "B of jump", list(ins(api.OpJump, 1, math.MinInt)), 0, 0)
}

// TestP16_3_DepthsOfPlacesComeToBySeveralWays, with like and unlike depths, ahead, behind, and at both ends.
func TestP16_3_DepthsOfPlacesComeToBySeveralWays(t *testing.T) {
	push, drop := ins(api.OpPush), ins(api.OpDrop)
	zero := func(place int) api.Instr { return ins(api.OpZero, place) }
	jump := func(place int) api.Instr { return ins(api.OpJump, place) }
	wantDepths(t, "both ways the same", list(push, zero(2)), 0, 1, 0)
	wantDepths(t, "past a nop", list(push, zero(3), ins(api.OpNop)), 0, 1, 0, 0)
	wantDepths(t, "one or the other", list(push, zero(4), push, jump(5), push, drop), 0, 1, 0, 1, 0, 1, 0)
	wantDepths(t, "three ways", list(push, push, zero(5), zero(6), push, zero(6)), 0, 1, 2, 1, 0, 1, 0)
	wantUntold(t, "one or nothing", list(push, zero(3), push, drop))
	wantUntold(t, "unlike at the end", list(push, zero(3), push))
	wantUntold(t, "unlike at the end, the other way", list(push, push, push, zero(5), drop))
	wantUntold(t, "one or two", list(push, zero(5), push, push, jump(6), push, drop))
	wantUntold(t, "a third way", list(push, push, zero(5), zero(6), jump(6), push))
}

func TestP16_3_DepthsOfWaysThatGoBack(t *testing.T) {
	push, drop, dup := ins(api.OpPush), ins(api.OpDrop), ins(api.OpDup)
	zero := func(place int) api.Instr { return ins(api.OpZero, place) }
	jump := func(place int) api.Instr { return ins(api.OpJump, place) }
	wantDepths(t, "till it is nothing", list(push, dup, zero(4), jump(1), drop), 0, 1, 2, 1, 1, 0)
	wantDepths(t, "to the beginning", list(push, zero(0)), 0, 1, 0)
	wantDepths(t, "to what lies behind", list(jump(3), drop, jump(5), push, jump(1)), 0, 1, 0, 0, 1, 0)
	wantUntold(t, "more each time, to the beginning", list(push, jump(0)))
	wantUntold(t, "more each time", list(ins(api.OpNop), push, jump(1)))
	wantUntold(t, "less each time", list(push, push, push, drop, zero(2)))
	wantUntold(t, "less each time, to the beginning", list(push, push, zero(0)))
	wantUntold(t, "to what lies behind, unlike", list(push, jump(3), ins(api.OpNop), push, jump(2)))
}

// TestP16_3_DepthsOfLongCode ends soon, and needs no deep stack of calls: one instruction is met once.
func TestP16_3_DepthsOfLongCode(t *testing.T) {
	const many = 1 << 18
	wantDepths(t, "nops", make([]api.Instr, many), make([]int, many+1)...)
	l := make([]api.Instr, many)
	want := make([]int, many+1)
	for i := range many / 2 {
		l[2*i] = ins(api.OpPush)
		l[2*i+1] = ins(api.OpZero, many)
		want[2*i+1] = 1
	}
	wantDepths(t, "zeros", l, want...)
	l[many-1] = ins(api.OpDrop)
	wantDepths(t, "zeros, and a drop", l, want...)
	l[many-1] = ins(api.OpNop)
	wantUntold(t, "unlike at the end", l)
	for i := range l {
		l[i] = ins(api.OpJump, i-1)
	}
	l[0], l[1] = ins(api.OpJump, many-1), ins(api.OpJump, many)
	wantDepths(t, "from the end to the beginning", l, make([]int, many+1)...)
}

// TestP16_3_DepthsOfAllShortCode holds all code of up to four instructions of a few kinds against all its ways.
func TestP16_3_DepthsOfAllShortCode(t *testing.T) {
	for many := range 5 {
		kinds := list(ins(api.OpNop), ins(api.OpPush), ins(api.OpDrop), ins(api.OpDup), ins(api.OpOver), ins(api.OpAdd), ins(api.OpHalt))
		for place := range many + 1 {
			kinds = append(kinds, ins(api.OpJump, place), ins(api.OpZero, place))
		}
		told := 0
		each(many, kinds, nil, func(l []api.Instr) {
			if wantWays(t, l) {
				told++
			}
		})
		if told == 0 {
			t.Errorf("of %d instructions nothing can be told", many)
		}
	}
}

// each does something with all lists of so many of some kinds.
func each(many int, kinds, begun []api.Instr, do func(l []api.Instr)) {
	if len(begun) == many {
		do(begun)
		return
	}
	for _, x := range kinds {
		each(many, kinds, append(begun[:len(begun):len(begun)], x), do)
	}
}

func TestP16_3_DepthsDrawn(t *testing.T) {
	r := source(163)
	told, untold := 0, 0
	for n := range 30000 {
		l := drawnRight(r, r.Intn(64))
		if n%4 == 0 {
			l = drawnList(r, r.Intn(12))
		}
		if wantWays(t, l) {
			told++
		} else {
			untold++
		}
		if t.Failed() {
			t.FailNow()
		}
	}
	if told < 5000 || untold < 5000 {
		t.Errorf("%d were told, %d not: too few to tell", told, untold)
	}
}

// wantWays holds Depths against all the ways through code, and answers whether they can be told.
func wantWays(t *testing.T, l []api.Instr) bool {
	t.Helper()
	want, ok := allWays(l)
	if ok {
		wantDepths(t, "all ways", l, want...)
	} else {
		wantUntold(t, "all ways", l)
	}
	return ok
}
