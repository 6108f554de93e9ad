package badge_test

import (
	"fmt"
	"math/rand"
	"slices"
	"testing"

	"pasodoble/api"
	"pasodoble/badge"
)

// book is the chapter's words told another way: a plain list of who has which number, gone through at every call.
type book struct {
	owners []pair
	next   int
}

func (k *book) owner(id int) int {
	return slices.IndexFunc(k.owners, func(own pair) bool { return own.id == id })
}

func (k *book) number(e api.Entity) int {
	return slices.IndexFunc(k.owners, func(own pair) bool { return own.e == e })
}

func (k *book) give(e api.Entity) (int, error) {
	switch {
	case k.number(e) >= 0:
		return 0, api.ErrTwice
	case k.next > last:
		return 0, api.ErrFull
	}
	k.owners = append(k.owners, pair{k.next, e})
	k.next++
	return k.next - 1, nil
}

func (k *book) pin(id int, e api.Entity) error {
	switch {
	case id < 1 || id >= k.next:
		return api.ErrArg
	case k.owner(id) >= 0 || k.number(e) >= 0:
		return api.ErrTwice
	}
	k.owners = append(k.owners, pair{id, e})
	return nil
}

func (k *book) drop(id int) (api.Entity, error) {
	at := k.owner(id)
	if at < 0 {
		return api.Entity{}, api.ErrNone
	}
	e := k.owners[at].e
	k.owners = slices.Delete(k.owners, at, at+1)
	return e, nil
}

func (k *book) turn(next int) (int, error) {
	if next < 1 || next > last+1 || slices.ContainsFunc(k.owners, func(own pair) bool { return own.id >= next }) {
		return 0, api.ErrArg
	}
	was := k.next
	k.next = next
	return was, nil
}

// rising answers the owners by rising numbers.
func (k *book) rising() []pair {
	list := slices.Clone(k.owners)
	slices.SortFunc(list, func(a, b pair) int { return a.id - b.id })
	return list
}

// drawnNumber is mostly near what is there: a number that somebody has, has had or may get next.
func drawnNumber(r *rand.Rand, k *book) int {
	switch r.Intn(12) {
	case 0:
		return ends[r.Intn(len(ends))]
	case 1:
		return last + r.Intn(3)
	case 2:
		return r.Intn(3)
	case 3, 4, 5:
		if len(k.owners) > 0 {
			return k.owners[r.Intn(len(k.owners))].id + r.Intn(2)
		}
	case 6:
		return k.next - r.Intn(3)
	}
	return 1 + r.Intn(20)
}

func wantSame(t *testing.T, name string, err, want error) {
	t.Helper()
	if want != nil {
		wants(t, name, err, want)
	} else if err != nil {
		t.Errorf("%s: %v", name, err)
	}
}

// oneCall makes a drawn call on both, and asks that both answer the same.
func oneCall(t *testing.T, r *rand.Rand, b *badge.Badges, k *book) {
	t.Helper()
	id, e := drawnNumber(r, k), entity(r.Intn(5), r.Intn(4)-1)
	switch r.Intn(4) {
	case 0:
		got, err := b.Give(e)
		want, wantErr := k.give(e)
		name := fmt.Sprint("Give ", e)
		wantSame(t, name, err, wantErr)
		if got != want {
			t.Errorf("%s: %d, want %d", name, got, want)
		}
	case 1:
		wantSame(t, fmt.Sprint("Pin ", id, e), b.Pin(id, e), k.pin(id, e))
	case 2:
		got, err := b.Drop(id)
		want, wantErr := k.drop(id)
		name := fmt.Sprint("Drop ", id)
		wantSame(t, name, err, wantErr)
		if got != want {
			t.Errorf("%s: %v, want %v", name, got, want)
		}
	case 3:
		got, err := b.Turn(id)
		want, wantErr := k.turn(id)
		name := fmt.Sprint("Turn ", id)
		wantSame(t, name, err, wantErr)
		if got != want {
			t.Errorf("%s: %d, want %d", name, got, want)
		}
	}
}

// wantOneToOne asks, through what badges tell alone, that nobody has two numbers and no number two owners.
func wantOneToOne(t *testing.T, name string, b *badge.Badges) {
	t.Helper()
	seen := map[api.Entity]int{}
	for _, id := range b.List() {
		e, ok := b.Entity(id)
		if other, twice := seen[e]; twice || !ok {
			t.Fatalf("%s: %v has %d and %d (%v)", name, e, other, id, ok)
		}
		seen[e] = id
		if back, ok := b.ID(e); back != id || !ok {
			t.Fatalf("%s: %d is %v's, who has %d, %v", name, id, e, back, ok)
		}
	}
	if len(seen) != b.Len() {
		t.Fatalf("%s: %d owners, Len %d", name, len(seen), b.Len())
	}
}

func TestP10_3_DrawnRowsOfCalls(t *testing.T) {
	for seed := range 150 {
		r := rand.New(rand.NewSource(int64(seed)))
		b, k := badge.New(), &book{next: 1}
		for call := range 150 {
			name := fmt.Sprint("row ", seed, " call ", call)
			oneCall(t, r, b, k)
			wantAll(t, name, b, k.next, k.rising()...)
			wantOneToOne(t, name, b)
			if t.Failed() {
				t.Fatal(name)
			}
		}
		for index := range 5 {
			for gen := -1; gen < 3; gen++ {
				if e := entity(index, gen); k.number(e) < 0 {
					wantUnnumbered(t, "behind the row", b, e)
				}
			}
		}
		for id := range 40 {
			if k.owner(id) < 0 {
				wantUnowned(t, "behind the row", b, id)
			}
		}
	}
}

func TestP10_3_ManyWaysToTwoOwners(t *testing.T) {
	b := badge.New()
	wantGive(t, b, being(0), 1)
	wantGive(t, b, being(1), 2)
	wantDrop(t, b, 2, being(1))
	wantTurn(t, b, 2, 3)
	wantNoGive(t, b, being(0), api.ErrTwice)
	wantGive(t, b, being(2), 2)
	wantNoPin(t, b, 2, being(1), api.ErrTwice)
	wantDrop(t, b, 1, being(0))
	wantPin(t, b, 1, being(1))
	wantNoPin(t, b, 1, being(0), api.ErrTwice)
	wantNoGive(t, b, being(1), api.ErrTwice)
	wantGive(t, b, being(0), 3)
	wantNoPin(t, b, 3, being(4), api.ErrTwice)
	wantOneToOne(t, "behind all", b)
	wantAll(t, "behind all", b, 4, pair{1, being(1)}, pair{2, being(2)}, pair{3, being(0)})
}
