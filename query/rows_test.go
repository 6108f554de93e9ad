package query_test

import (
	"fmt"
	"math/rand"
	"slices"
	"testing"

	"pasodoble/api"
)

// being is an entity as the test itself keeps it; its number is 0, if it has none.
type being struct {
	e     api.Entity
	id    int
	parts []api.Part
}

// cast is a scene beside a plain list of those that are alive in it.
type cast struct {
	*scene
	r      *rand.Rand
	beings []*being
	frame  int
}

func (k *cast) drawnPart(comp int) api.Part {
	return api.Part{Comp: comp, Values: [api.MaxWidth]int{k.r.Int()}, Tick: k.frame - k.r.Intn(4)}
}

// spawned is a drawn new entity, with a number or without one.
func (k *cast) spawned() {
	if len(k.beings) == api.MaxEntities {
		return
	}
	one := &being{}
	for _, comp := range k.r.Perm(4) {
		if k.r.Intn(2) == 0 {
			one.parts = append(one.parts, k.drawnPart(comp))
		}
	}
	one.e = k.spawn(one.parts...)
	if k.r.Intn(4) > 0 {
		one.id = k.badges.Next()
		k.give(one.e)
	}
	k.beings = append(k.beings, one)
}

// gone takes an entity out; its number stays with the handle, or is dropped.
func (k *cast) gone(i int) {
	one := k.beings[i]
	if _, err := k.s.Despawn(one.e); err != nil {
		k.Fatal("Despawn", one.e, err)
	}
	if k.r.Intn(2) == 0 {
		k.badges.Drop(one.id)
	}
	k.beings = slices.Delete(k.beings, i, i+1)
}

// renumbered gives an entity that has no number a number of old that is nobody's, and takes it from one that has one.
func (k *cast) renumbered(one *being) {
	if one.id > 0 {
		k.badges.Drop(one.id)
		one.id = 0
		return
	}
	id := 1 + k.r.Intn(k.badges.Next())
	if k.badges.Pin(id, one.e) == nil {
		one.id = id
	}
}

// changed inserts, removes or changes a part.
func (k *cast) changed(one *being) {
	p := k.drawnPart(k.r.Intn(4))
	at := slices.IndexFunc(one.parts, func(had api.Part) bool { return had.Comp == p.Comp })
	var err error
	switch {
	case at < 0:
		err = k.s.Insert(one.e, p)
		one.parts = append(one.parts, p)
	case k.r.Intn(2) == 0:
		_, err = k.s.Remove(one.e, p.Comp)
		one.parts = slices.Delete(one.parts, at, at+1)
	default:
		_, err = k.s.Put(one.e, p)
		one.parts[at] = p
	}
	if err != nil {
		k.Fatal(one.e, p, err)
	}
}

func (k *cast) oneCall() {
	i := 0
	if len(k.beings) > 0 {
		i = k.r.Intn(len(k.beings))
	}
	switch n := k.r.Intn(10); {
	case n < 3 || len(k.beings) == 0:
		k.spawned()
	case n < 4:
		k.gone(i)
	case n < 5:
		k.renumbered(k.beings[i])
	case n < 9:
		k.changed(k.beings[i])
	default:
		k.frame++
	}
}

// want are the numbers of those that are meant, found by going through the list.
func (k *cast) want(f api.Filter, frame int) []int {
	var ids []int
	for _, one := range k.beings {
		if one.id > 0 && isMeant(f, frame, one.parts) {
			ids = append(ids, one.id)
		}
	}
	slices.Sort(ids)
	return ids
}

func TestP11_3_DrawnRowsOfCalls(t *testing.T) {
	meant := 0
	for seed := range 60 {
		r := rand.New(rand.NewSource(int64(seed)))
		k := &cast{scene: staged(t, four(), api.MaxEntities), r: r, frame: r.Intn(10) - 5}
		for call := range 120 {
			k.oneCall()
			f := api.Filter{With: api.Mask(r.Intn(16) & r.Intn(16))}
			if r.Intn(2) == 0 {
				f.Without = api.Mask(r.Intn(16) & r.Intn(16))
			}
			if r.Intn(2) == 0 {
				f.Changed = api.Mask(r.Intn(16) & r.Intn(16))
			}
			frame := k.frame + r.Intn(4) - 1
			want := k.want(f, frame)
			meant += len(want)
			k.wants(fmt.Sprint("row ", seed, " call ", call), f, frame, want...)
			if t.Failed() {
				t.FailNow()
			}
		}
	}
	if meant < 1000 {
		t.Error("too few were meant:", meant)
	}
}
