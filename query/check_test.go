package query_test

import (
	"errors"
	"fmt"
	"math/rand"
	"slices"
	"strings"
	"testing"

	"pasodoble/api"
	"pasodoble/blame"
	"pasodoble/query"
)

// all is the set of every number.
const all = api.Mask(1<<32 - 1)

// The components of most tests' schemas, as sets; none is the set of a number that is no component's.
const (
	a, b, look, c = api.Mask(1), api.Mask(2), api.Mask(4), api.Mask(8)
	none          = api.Mask(16)
)

// four is a schema of the components a, b, c, rolled back, and look, only shown.
func four() api.Schema {
	return api.Schema{
		Components: []api.Component{
			{Name: "a", Width: 1, Rollback: true},
			{Name: "b", Width: 2, Rollback: true},
			{Name: "look", Width: 4},
			{Name: "c", Width: 3, Rollback: true, Default: [api.MaxWidth]int{1, 2, 3}},
		},
		Resources: []api.Resource{{Name: "score", Value: 3}},
	}
}

// rolledBack is a schema of so many components, all rolled back, or all only shown.
func rolledBack(many int, rollback bool) api.Schema {
	var s api.Schema
	for i := range many {
		name := string(rune('a'+i/26%26)) + string(rune('a'+i%26))
		s.Components = append(s.Components, api.Component{Name: name, Width: 1 + i%api.MaxWidth, Rollback: rollback})
	}
	return s
}

// inSet is whether a number is in a set, found by halving it.
func inSet(m api.Mask, number int) bool {
	for range number {
		m /= 2
	}
	return m%2 == 1
}

// wrong is what the document asks of Check, told another way: number by number, a word for each thing that is wrong.
func wrong(s api.Schema, f api.Filter) []string {
	var words [5]string
	for number := range 32 {
		rolled := number < len(s.Components) && s.Components[number].Rollback
		in, out, lately := inSet(f.With, number), inSet(f.Without, number), inSet(f.Changed, number)
		if in && !rolled {
			words[0] = "with 1"
		}
		if out && !rolled {
			words[1] = "without 1"
		}
		if lately && !rolled {
			words[2] = "changed 1"
		}
		if in && out {
			words[3] = "without 9"
		}
		if lately && !in {
			words[4] = "changed 7"
		}
	}
	return slices.DeleteFunc(words[:], func(word string) bool { return word == "" })
}

// wantCheck asks that Check tells just these things, each as its way and its error's number, in this order.
func wantCheck(t *testing.T, name string, s api.Schema, f api.Filter, want ...string) {
	t.Helper()
	err := query.Check(s, f)
	var got []string
	for _, leaf := range blame.Leaves(err) {
		got = append(got, fmt.Sprint(leaf.Path, " ", leaf.Number))
	}
	if !slices.Equal(got, want) {
		t.Errorf("%s: Check %+v: %q, want %q", name, f, got, want)
	}
	if (err == nil) != (len(want) == 0) {
		t.Errorf("%s: Check %+v: %v, want %q", name, f, err, want)
	}
	for _, named := range []error{api.ErrArg, api.ErrTwice, api.ErrNone} {
		number := fmt.Sprint(" ", blame.Number(named))
		told := slices.ContainsFunc(want, func(word string) bool { return strings.HasSuffix(word, number) })
		if errors.Is(err, named) != told {
			t.Errorf("%s: Check %+v: errors.Is %v: %v", name, f, named, !told)
		}
	}
}

func TestP11_1_CheckOfWhatCanBe(t *testing.T) {
	for _, f := range []api.Filter{
		{}, {With: a}, {With: b}, {With: c}, {With: a | b | c}, {Without: a}, {Without: a | b | c},
		{With: a, Without: b}, {With: a | c, Without: b}, {With: a, Changed: a}, {With: a | b, Changed: b},
		{With: a | b | c, Changed: a | b | c}, {With: a | b, Without: c, Changed: a},
	} {
		wantCheck(t, "can be", four(), f)
	}
}

func TestP11_1_CheckOfOneThing(t *testing.T) {
	for _, m := range []api.Mask{look, none, 1 << 31, look | none, a | look, b | c | none} {
		wantCheck(t, "with", four(), api.Filter{With: m}, "with 1")
		wantCheck(t, "without", four(), api.Filter{Without: m}, "without 1")
		// That Changed's is a wrong number is never told alone: With hasn't got it, or has a wrong one too.
		wantCheck(t, "changed", four(), api.Filter{Changed: m}, "changed 1", "changed 7")
		wantCheck(t, "changed", four(), api.Filter{With: m, Changed: m}, "with 1", "changed 1")
	}
	for _, f := range []api.Filter{{With: a, Without: a}, {With: a | b, Without: b | c}, {With: a | b, Without: a | b, Changed: a}} {
		wantCheck(t, "twice", four(), f, "without 9")
	}
	for _, f := range []api.Filter{{Changed: a}, {With: a, Changed: b}, {With: a, Changed: a | b}, {Without: a, Changed: a}} {
		wantCheck(t, "none", four(), f, "changed 7")
	}
}

func TestP11_1_CheckOfTwoThings(t *testing.T) {
	for _, x := range []struct {
		f    api.Filter
		want []string
	}{
		{api.Filter{With: look, Without: none}, []string{"with 1", "without 1"}},
		{api.Filter{With: look, Changed: look}, []string{"with 1", "changed 1"}},
		{api.Filter{With: a | look, Without: a}, []string{"with 1", "without 9"}},
		{api.Filter{With: look, Changed: a}, []string{"with 1", "changed 7"}},
		{api.Filter{With: a, Without: a | look}, []string{"without 1", "without 9"}},
		{api.Filter{Without: look, Changed: a}, []string{"without 1", "changed 7"}},
		{api.Filter{Changed: look}, []string{"changed 1", "changed 7"}},
		{api.Filter{With: a, Without: a, Changed: b}, []string{"without 9", "changed 7"}},
		// Changed's wrong number beside Without's, and beside one in common, tells a third thing each.
		{api.Filter{Without: look, Changed: look}, []string{"without 1", "changed 1", "changed 7"}},
		{api.Filter{With: a, Without: a, Changed: look}, []string{"changed 1", "without 9", "changed 7"}},
		{api.Filter{With: a | look, Without: a, Changed: look}, []string{"with 1", "changed 1", "without 9"}},
	} {
		wantCheck(t, "two", four(), x.f, x.want...)
	}
}

func TestP11_1_CheckOfAllAtOnce(t *testing.T) {
	every := []string{"with 1", "without 1", "changed 1", "without 9", "changed 7"}
	for _, f := range []api.Filter{
		{With: look, Without: look, Changed: none},
		{With: a | look, Without: a | none, Changed: none},
		{With: all - 1<<31, Without: all, Changed: all},
	} {
		wantCheck(t, "all", four(), f, every...)
	}
	var several *blame.Several
	if err := query.Check(four(), api.Filter{With: look, Without: look, Changed: none}); !errors.As(err, &several) || len(several.Errs) != len(every) {
		t.Errorf("not put together: %v", err)
	}
}

func TestP11_1_CheckOfOneThingIsNotSeveral(t *testing.T) {
	var several *blame.Several
	if err := query.Check(four(), api.Filter{With: look}); errors.As(err, &several) {
		t.Errorf("several: %v", several.Errs)
	}
}

// TestP11_1_CheckOfEveryFilter goes through all filters of numbers of each kind, the last one a set's last number.
func TestP11_1_CheckOfEveryFilter(t *testing.T) {
	var sets []api.Mask
	for n := range 32 {
		m := api.Mask(n) & 15
		if n > 15 {
			m |= 1 << 31
		}
		sets = append(sets, m)
	}
	s := four()
	for _, in := range sets {
		for _, out := range sets {
			for _, lately := range sets {
				f := api.Filter{With: in, Without: out, Changed: lately}
				wantCheck(t, "every", s, f, wrong(s, f)...)
			}
		}
		if t.Failed() {
			t.Fatal("with ", in)
		}
	}
}

func TestP11_1_CheckWithoutComponents(t *testing.T) {
	for _, s := range []api.Schema{{}, {Components: []api.Component{}, Resources: []api.Resource{{Name: "a"}}}} {
		wantCheck(t, "no filter", s, api.Filter{})
		for number := range 32 {
			m := api.Mask(1) << number
			wantCheck(t, "with", s, api.Filter{With: m}, "with 1")
			wantCheck(t, "without", s, api.Filter{Without: m}, "without 1")
			wantCheck(t, "changed", s, api.Filter{Changed: m}, "changed 1", "changed 7")
		}
		wantCheck(t, "every number", s, api.Filter{With: all, Changed: all}, "with 1", "changed 1")
	}
}

func TestP11_1_CheckOfTheGreatestSchema(t *testing.T) {
	s := rolledBack(api.MaxComponents, true)
	last := api.Mask(1) << (api.MaxComponents - 1)
	every := last | last - 1
	wantCheck(t, "every component", s, api.Filter{With: every, Changed: every})
	wantCheck(t, "every component", s, api.Filter{Without: every})
	for number := range 32 {
		m := api.Mask(1) << number
		for _, f := range []api.Filter{{With: m}, {Without: m}, {Changed: m}, {With: m, Changed: m}, {With: every | m, Without: m}} {
			wantCheck(t, fmt.Sprint("number ", number), s, f, wrong(s, f)...)
		}
	}
	wantCheck(t, "above the last", s, api.Filter{With: last << 1}, "with 1")
	wantCheck(t, "every number", s, api.Filter{With: all}, "with 1")
	shown := rolledBack(api.MaxComponents, false)
	wantCheck(t, "only shown", shown, api.Filter{With: 1, Without: last}, "with 1", "without 1")
	wantCheck(t, "only shown", shown, api.Filter{})
}

// TestP11_1_CheckTakesTheSchemaAsItIs asks that a schema that can't be is asked for its components, and not blamed.
func TestP11_1_CheckTakesTheSchemaAsItIs(t *testing.T) {
	s := api.Schema{Components: []api.Component{
		{Name: "", Width: -1, Rollback: true}, {Name: "Ä!", Width: 99},
		{Name: "a", Width: 1, Rollback: true}, {Name: "a", Width: 0, Rollback: true, Default: [api.MaxWidth]int{1, 1, 1, 1}},
	}, Resources: []api.Resource{{Name: "a"}, {Name: "a"}}}
	wantCheck(t, "can't be", s, api.Filter{})
	wantCheck(t, "can't be", s, api.Filter{With: 1 | 4 | 8, Changed: 1})
	wantCheck(t, "can't be", s, api.Filter{With: 1 | 2}, "with 1")
	wantCheck(t, "can't be", s, api.Filter{With: 16, Without: 2}, "with 1", "without 1")
	for _, many := range []int{17, 31, 32, 33, 64, 70} {
		s := rolledBack(many, true)
		s.Components[3].Rollback = false
		r := rand.New(rand.NewSource(int64(many)))
		for number := range 32 {
			f := api.Filter{With: 1 << number}
			wantCheck(t, fmt.Sprint(many, " components"), s, f, wrong(s, f)...)
			f = api.Filter{With: api.Mask(r.Uint32()), Without: api.Mask(r.Uint32()), Changed: api.Mask(r.Uint32())}
			wantCheck(t, fmt.Sprint(many, " components"), s, f, wrong(s, f)...)
		}
	}
	wantCheck(t, "all rolled back", rolledBack(33, true), api.Filter{With: all, Changed: all})
	wantCheck(t, "all only shown", rolledBack(33, false), api.Filter{With: all}, "with 1")
}

func TestP11_1_CheckDrawn(t *testing.T) {
	r := rand.New(rand.NewSource(11))
	for range 5000 {
		s := rolledBack(r.Intn(40), true)
		for i := range s.Components {
			s.Components[i].Rollback = r.Intn(5) > 0
		}
		var m [3]api.Mask
		for i := range m {
			m[i] = api.Mask(r.Uint32() & r.Uint32() & r.Uint32() >> r.Intn(33))
		}
		f := api.Filter{With: m[0], Without: m[1], Changed: m[2]}
		if r.Intn(2) == 0 {
			f.Changed &= f.With
		}
		wantCheck(t, "drawn", s, f, wrong(s, f)...)
	}
}

func TestP11_1_CheckChangesNothing(t *testing.T) {
	room := append(four().Components, api.Component{Name: "spare", Width: 3, Rollback: true})
	s := api.Schema{Components: room[:4], Resources: four().Resources}
	f := api.Filter{With: a | look, Without: a | none, Changed: b}
	wantCheck(t, "number behind the end", s, api.Filter{With: none}, "with 1")
	first := blame.Leaves(query.Check(s, f))
	var several *blame.Several
	if err := query.Check(s, f); errors.As(err, &several) {
		clear(several.Errs)
	}
	if again := blame.Leaves(query.Check(s, f)); !slices.Equal(again, first) || len(first) != 4 {
		t.Errorf("Check once more: %v, first %v", again, first)
	}
	if !slices.Equal(room[:4], four().Components) || !slices.Equal(s.Resources, four().Resources) ||
		room[4] != (api.Component{Name: "spare", Width: 3, Rollback: true}) {
		t.Error("the schema was changed:", s, room)
	}
}
