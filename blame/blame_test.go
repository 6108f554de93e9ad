package blame_test

import (
	"errors"
	"fmt"
	"math"
	"math/rand"
	"slices"
	"strings"
	"testing"

	"pasodoble/api"
	"pasodoble/blame"
)

// numbered are the errors as the chapter numbers them: numbered[i] has the number i+1.
var numbered = []error{
	api.ErrArg, api.ErrNil, api.ErrForm, api.ErrLong, api.ErrSum, api.ErrFull,
	api.ErrNone, api.ErrState, api.ErrTwice, api.ErrName, api.ErrCycle, api.ErrStack,
	api.ErrJump, api.ErrOp, api.ErrFuel, api.ErrRange, api.ErrDead, api.ErrWord,
}

var (
	nilBlame   *blame.Blame
	nilSeveral *blame.Several
	stranger   = errors.New("none of the named ones")
)

// claimant says that it is every error it is asked for.
type claimant struct{}

func (claimant) Error() string { return "claimant" }
func (claimant) Is(error) bool { return true }

// bomb panics when it is asked anything, and can't be compared.
type bomb struct{ list []int }

func (bomb) Error() string { panic("Error") }
func (bomb) Is(error) bool { panic("Is") }
func (bomb) Unwrap() error { panic("Unwrap") }

func several(errs ...error) *blame.Several { return &blame.Several{Errs: errs} }

func leaf(path string, number int) blame.Leaf { return blame.Leaf{Path: path, Number: number} }

func wantLeaves(t *testing.T, name string, err error, want ...blame.Leaf) {
	t.Helper()
	if got := blame.Leaves(err); !slices.Equal(got, want) {
		t.Errorf("%s: leaves %v, want %v", name, got, want)
	}
}

// wantSeveral asks that err is a *Several of just these errors.
func wantSeveral(t *testing.T, name string, err error, want ...error) {
	t.Helper()
	s, ok := err.(*blame.Several)
	if !ok {
		t.Errorf("%s: %T, want a *Several", name, err)
		return
	}
	if !slices.Equal(s.Errs, want) {
		t.Errorf("%s: %v, want %v", name, s.Errs, want)
	}
}

func TestP1_1_At(t *testing.T) {
	for _, where := range []string{"", "a", "a/b", "\xff\x00"} {
		if err := blame.At(where, nil); err != nil {
			t.Errorf("At(%q, nil): %v", where, err)
		}
		within := blame.At("b", api.ErrName)
		for _, err := range []error{api.ErrArg, stranger, within, several(api.ErrArg, nil), nilBlame, nilSeveral} {
			b, ok := blame.At(where, err).(*blame.Blame)
			if !ok || b == nil || b.Where != where || b.Err != err || b.Unwrap() != err {
				t.Errorf("At(%q, %T): %+v", where, err, b)
			}
		}
	}
}

func TestP1_1_AllOfNone(t *testing.T) {
	none := [][]error{
		nil, {}, {nil}, {nil, nil, nil}, {nilSeveral}, {several()}, {several(nil)},
		{nil, several(nil, nilSeveral, several(several())), nil},
	}
	for i, errs := range none {
		if err := blame.All(errs...); err != nil {
			t.Errorf("%d: %#v", i, err)
		}
	}
}

func TestP1_1_AllOfOne(t *testing.T) {
	within := blame.At("a", blame.All(api.ErrArg, api.ErrNil))
	for _, one := range []error{api.ErrWord, stranger, within, nilBlame, errors.Join(api.ErrArg, api.ErrNil)} {
		ways := [][]error{
			{one}, {nil, one, nil}, {nilSeveral, one}, {several(one)},
			{several(nil, several(one, nil)), nil, several()},
		}
		for i, errs := range ways {
			if err := blame.All(errs...); err != one {
				t.Errorf("%T, %d: %#v", one, i, err)
			}
		}
	}
}

func TestP1_1_AllOfMore(t *testing.T) {
	a, b, c, d := api.ErrArg, api.ErrNil, blame.At("c", api.ErrForm), stranger
	wantSeveral(t, "two", blame.All(a, b), a, b)
	wantSeveral(t, "order and nils", blame.All(d, nil, c, nil, b, a), d, c, b, a)
	wantSeveral(t, "the same twice", blame.All(a, a), a, a)
	wantSeveral(t, "a Several alone", blame.All(blame.All(a, b)), a, b)
	wantSeveral(t, "in its place", blame.All(a, blame.All(b, c), d), a, b, c, d)
	wantSeveral(t, "nested", blame.All(several(a, nil, several(nil, several(b, c), nilSeveral)), nilSeveral, d), a, b, c, d)
	wantSeveral(t, "a nil Blame", blame.All(nilBlame, a), nilBlame, a)

	within := blame.At("x", blame.All(a, b))
	wantSeveral(t, "a Several within a Blame", blame.All(within, c), within, c)
	joined := errors.Join(a, b)
	wantSeveral(t, "a list from elsewhere", blame.All(joined, c), joined, c)
}

func TestP1_1_AllSharesNothing(t *testing.T) {
	backing := []error{api.ErrArg, api.ErrNil, api.ErrForm}
	list := backing[:2]
	all := blame.All(list...)
	if !slices.Equal(backing, []error{api.ErrArg, api.ErrNil, api.ErrForm}) {
		t.Error("the list that was handed in was changed:", backing)
	}
	backing[0] = stranger
	wantSeveral(t, "the list changed behind the call", all, api.ErrArg, api.ErrNil)

	nested := several(api.ErrSum, api.ErrFull)
	all = blame.All(nested)
	nested.Errs[0] = stranger
	wantSeveral(t, "a Several changed behind the call", all, api.ErrSum, api.ErrFull)
	all = blame.All(several(api.ErrSum, api.ErrFull), api.ErrDead)
	wantSeveral(t, "a Several with one behind it", all, api.ErrSum, api.ErrFull, api.ErrDead)
}

func TestP1_1_WordsAndUnwrap(t *testing.T) {
	for _, b := range []*blame.Blame{nilBlame, {}, {Where: "a", Err: api.ErrArg}} {
		if b.Error() != "blame" {
			t.Errorf("%q", b.Error())
		}
	}
	for _, s := range []*blame.Several{nilSeveral, {}, several(api.ErrArg, api.ErrNil)} {
		if s.Error() != "several" {
			t.Errorf("%q", s.Error())
		}
	}
	if nilBlame.Unwrap() != nil || (&blame.Blame{}).Unwrap() != nil {
		t.Error("a Blame of nothing wraps something")
	}
	if len(nilSeveral.Unwrap()) != 0 || len(several().Unwrap()) != 0 {
		t.Error("a Several of nothing wraps something")
	}
	s := several(api.ErrArg, nil, api.ErrNil)
	told := s.Unwrap()
	if !slices.Equal(told, []error{api.ErrArg, nil, api.ErrNil}) {
		t.Error("Unwrap:", told)
	}
	told[0] = stranger
	if s.Errs[0] != api.ErrArg {
		t.Error("Unwrap told no copy")
	}
}

func TestP1_1_ErrorsAsAndIsLookInside(t *testing.T) {
	err := fmt.Errorf("outside: %w", blame.All(api.ErrSum, blame.At("x", blame.At("y", api.ErrDead))))
	var s *blame.Several
	if !errors.As(err, &s) || len(s.Errs) != 2 {
		t.Error("no Several found:", s)
	}
	var b *blame.Blame
	if !errors.As(err, &b) || b.Where != "x" {
		t.Error("no Blame found:", b)
	}
	if !errors.Is(err, api.ErrSum) || !errors.Is(err, api.ErrDead) || errors.Is(err, api.ErrArg) {
		t.Error("errors.Is")
	}
}

func TestP1_2_Of(t *testing.T) {
	for i, err := range numbered {
		if blame.Of(i+1) != err {
			t.Errorf("Of(%d): %v, want %v", i+1, blame.Of(i+1), err)
		}
	}
	for _, number := range []int{math.MinInt, -18, -1, 0, 19, 20, 1 << 32, 1<<32 + 1, math.MaxInt} {
		if err := blame.Of(number); err != nil {
			t.Errorf("Of(%d): %v", number, err)
		}
	}
}

func TestP1_2_NumberAndHasOfEach(t *testing.T) {
	for i, err := range numbered {
		ways := []error{
			err, blame.At("a", err), blame.At("a", blame.At("b", err)), several(err), several(nil, stranger, err),
			fmt.Errorf("outside: %w", err), blame.At("a", errors.Join(stranger, err)), several(nilBlame, nilSeveral, bomb{}, err),
		}
		for j, way := range ways {
			if n := blame.Number(way); n != i+1 {
				t.Errorf("%d, way %d: Number %d", i+1, j, n)
			}
			for n := -1; n <= 20; n++ {
				if blame.Has(way, n) != (n == i+1) {
					t.Errorf("%d, way %d: Has %d: %v", i+1, j, n, blame.Has(way, n))
				}
			}
		}
	}
}

func TestP1_2_NoneOfThem(t *testing.T) {
	if n := blame.Number(nil); n != 0 {
		t.Error("Number of nil:", n)
	}
	alike := errors.New(api.ErrArg.Error())
	strangers := []error{
		stranger, alike, fmt.Errorf("%v", api.ErrArg), blame.At("a", stranger), several(stranger, alike),
		nilBlame, nilSeveral, &blame.Blame{}, several(), several(nil), bomb{}, blame.At("a", bomb{}),
	}
	for i, err := range strangers {
		if n := blame.Number(err); n != -1 {
			t.Errorf("stranger %d: Number %d", i, n)
		}
	}
	for i, err := range append(strangers, nil) {
		for _, n := range []int{math.MinInt, -1, 0, 1, 2, 17, 18, 19, math.MaxInt} {
			if blame.Has(err, n) {
				t.Errorf("stranger %d: Has %d", i, n)
			}
		}
	}
}

func TestP1_2_TheLeast(t *testing.T) {
	cases := []struct {
		err  error
		want int
	}{
		{blame.All(api.ErrWord, api.ErrName), 10},
		{blame.All(api.ErrName, api.ErrWord), 10},
		{blame.All(stranger, blame.At("a", blame.All(api.ErrDead, api.ErrNil)), api.ErrArg), 1},
		{blame.At("a", errors.Join(api.ErrDead, api.ErrNil)), 2},
		{claimant{}, 1},
		{blame.All(api.ErrWord, claimant{}), 1},
	}
	for i, c := range cases {
		if n := blame.Number(c.err); n != c.want {
			t.Errorf("%d: %d, want %d", i, n, c.want)
		}
	}
	two := blame.All(api.ErrWord, blame.At("b", api.ErrName))
	if !blame.Has(two, 18) || !blame.Has(two, 10) || blame.Has(two, 1) {
		t.Error("Has of two")
	}
	for _, n := range []int{math.MinInt, -1, 0, 19, math.MaxInt} {
		if blame.Has(claimant{}, n) {
			t.Errorf("Has %d, which is no number", n)
		}
	}
}

func TestP1_3_Leaves(t *testing.T) {
	example := blame.All(blame.At("a", api.ErrWord), nil, blame.At("b", blame.At("c", api.ErrName)))
	wantLeaves(t, "the chapter's example", example, leaf("a", 18), leaf("b/c", 10))
	if n := blame.Number(example); n != 10 {
		t.Error("the chapter's example: Number", n)
	}
	wantLeaves(t, "nil", nil)
	wantLeaves(t, "alone", api.ErrArg, leaf("", 1))
	wantLeaves(t, "stranger", blame.At("a", stranger), leaf("a", -1))
	wantLeaves(t, "in order", blame.All(api.ErrSum, api.ErrArg, api.ErrSum), leaf("", 5), leaf("", 1), leaf("", 5))
	wantLeaves(t, "a Several within a Several", several(api.ErrSum, several(nil, several(api.ErrArg), api.ErrNil)),
		leaf("", 5), leaf("", 1), leaf("", 2))
	wantLeaves(t, "a Several within a Blame", blame.At("a", blame.All(api.ErrSum, blame.At("b", api.ErrArg), api.ErrNil)),
		leaf("a", 5), leaf("a/b", 1), leaf("a", 2))
	wantLeaves(t, "neighbours", blame.At("r", blame.All(
		blame.At("a", blame.At("b", api.ErrArg)), blame.At("c", blame.At("d", api.ErrNil)), api.ErrForm)),
		leaf("r/a/b", 1), leaf("r/c/d", 2), leaf("r", 3))
	wantLeaves(t, "empty Wheres", blame.At("", blame.At("a", blame.At("", api.ErrArg))), leaf("/a/", 1))
	wantLeaves(t, "one empty Where", blame.At("", api.ErrArg), leaf("", 1))
	wantLeaves(t, "a sign within a Where", blame.At("a/b", blame.At("c", api.ErrArg)), leaf("a/b/c", 1))
}

func TestP1_3_LeavesOfNothing(t *testing.T) {
	for i, err := range []error{
		nilBlame, nilSeveral, &blame.Blame{}, &blame.Blame{Where: "a"}, several(), several(nil, nil),
		blame.At("a", nilBlame), blame.At("a", several(nilSeveral, nilBlame)),
	} {
		if l := blame.Leaves(err); len(l) != 0 {
			t.Errorf("%d: %v", i, l)
		}
	}
	wantLeaves(t, "nothing beside something", several(nilBlame, api.ErrArg, nilSeveral, nil, &blame.Blame{Where: "a"}), leaf("", 1))
}

func TestP1_3_WhatIsFromElsewhereIsALeaf(t *testing.T) {
	outside := fmt.Errorf("outside: %w", blame.At("hidden", api.ErrName))
	wantLeaves(t, "wraps a Blame", blame.At("a", outside), leaf("a", 10))
	joined := errors.Join(api.ErrWord, api.ErrNil)
	wantLeaves(t, "wraps several", blame.All(joined, api.ErrArg), leaf("", 2), leaf("", 1))
	wantLeaves(t, "panics", blame.At("a", blame.All(api.ErrArg, bomb{}, api.ErrNil)), leaf("a", 1), leaf("a", -1), leaf("a", 2))
}

// tree answers an error put together at random, and the leaves that it should have.
func tree(r *rand.Rand, depth int) (error, []blame.Leaf) {
	kind := r.Intn(4)
	if depth == 0 {
		kind = r.Intn(2)
	}
	switch kind {
	case 0:
		return stranger, []blame.Leaf{leaf("", -1)}
	case 1:
		n := r.Intn(len(numbered))
		return numbered[n], []blame.Leaf{leaf("", n+1)}
	case 2:
		inner, want := tree(r, depth-1)
		where := string(rune('a' + r.Intn(26)))
		return blame.At(where, inner), under(where, want)
	}
	var errs []error
	var want []blame.Leaf
	for range r.Intn(4) {
		err, more := tree(r, depth-1)
		errs, want = append(errs, err), append(want, more...)
	}
	return blame.All(errs...), want
}

// under puts a Where ahead of the leaves' paths. No Where of a tree is empty, so an empty path is one without a Where.
func under(where string, list []blame.Leaf) []blame.Leaf {
	out := slices.Clone(list)
	for i := range out {
		if out[i].Path == "" {
			out[i].Path = where
		} else {
			out[i].Path = where + "/" + out[i].Path
		}
	}
	return out
}

func TestP1_4_PartsAreAsTheyWere(t *testing.T) {
	r := rand.New(rand.NewSource(1))
	for range 2000 {
		err, want := tree(r, 5)
		wantLeaves(t, "tree", err, want...)
		least := -1
		has := map[int]bool{}
		for _, l := range want {
			has[l.Number] = l.Number > 0
			if l.Number > 0 && (least == -1 || l.Number < least) {
				least = l.Number
			}
		}
		if err == nil {
			least = 0
		}
		if n := blame.Number(err); n != least {
			t.Errorf("Number %d, want %d", n, least)
		}
		for n := -1; n <= 19; n++ {
			if blame.Has(err, n) != has[n] {
				t.Errorf("Has %d: %v", n, blame.Has(err, n))
			}
		}
	}
}

func TestP1_4_HowItWasPutTogetherDoesNotMatter(t *testing.T) {
	r := rand.New(rand.NewSource(2))
	for range 500 {
		a, la := tree(r, 3)
		b, lb := tree(r, 3)
		c, lc := tree(r, 3)
		want := slices.Concat(la, lb, lc)
		for i, err := range []error{
			blame.All(a, b, c), blame.All(blame.All(a, b), c), blame.All(a, blame.All(b, c)),
			blame.All(blame.All(a, nil), blame.All(), blame.All(blame.All(b), c)), several(a, several(b, nil, c)),
		} {
			wantLeaves(t, fmt.Sprint("way ", i), err, want...)
		}
		whole := blame.At("w", blame.All(a, b, c))
		apart := blame.All(blame.At("w", a), blame.All(blame.At("w", b), blame.At("w", c)))
		wantLeaves(t, "apart", apart, blame.Leaves(whole)...)
		if blame.Number(whole) != blame.Number(apart) {
			t.Errorf("Number %d and %d", blame.Number(whole), blame.Number(apart))
		}
		flat, again := blame.All(a, blame.All(b, c)), blame.All(blame.All(a, b), c)
		if fs, ok := flat.(*blame.Several); ok {
			wantSeveral(t, "grouped otherwise", again, fs.Errs...)
		} else if flat != again {
			t.Errorf("%v and %v", flat, again)
		}
	}
}

func TestP1_EndsWhenNestedDeep(t *testing.T) {
	const depth = 1 << 16
	chain, nest, both := error(api.ErrWord), error(api.ErrWord), error(api.ErrWord)
	for i := range depth {
		chain = blame.At("a", chain)
		nest = several(nest)
		if i%2 == 0 {
			both = blame.At("a", both)
		} else {
			both = several(nilBlame, both)
		}
	}
	for i, err := range []error{chain, nest, both} {
		if blame.Number(err) != 18 || !blame.Has(err, 18) || blame.Has(err, 1) {
			t.Errorf("%d: Number %d", i, blame.Number(err))
		}
	}
	wantLeaves(t, "chain", chain, leaf(strings.Repeat("a/", depth-1)+"a", 18))
	wantLeaves(t, "nest", nest, leaf("", 18))
	wantLeaves(t, "both", both, leaf(strings.Repeat("a/", depth/2-1)+"a", 18))
	if blame.All(nest) != error(api.ErrWord) {
		t.Error("All of what is nested deep")
	}
}
