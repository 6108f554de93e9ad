package orders_test

import (
	"fmt"
	"slices"
	"testing"

	"pasodoble/api"
	"pasodoble/orders"
)

// roomy is five, with room behind its lists that a call might write to.
func roomy() api.Schema {
	s := five()
	s.Components = append(make([]api.Component, 0, 2*comps), s.Components...)
	s.Resources = append(make([]api.Resource, 0, 4), s.Resources...)
	return s
}

// whole is all that a schema's lists hold, the room behind them too.
func whole(s api.Schema) string {
	return fmt.Sprint(s.Components[:cap(s.Components)], s.Resources[:cap(s.Resources)])
}

func TestP15_1_TheSchemaIsNotChanged(t *testing.T) {
	s := roomy()
	was := whole(s)
	x := staged(t)
	x.o = made(t, s, 9)
	x.wantFlush("all kinds", list(spawn(pos, hue), despawn(1), insert(3, hp), remove(2, look)), true, true, true, true)
	if now := whole(s); now != was {
		t.Errorf("handed in was %s, now %s", was, now)
	}
}

// TestP15_1_TheSchemaIsNotKept: commands can be, and who is spawned begins, as the schema was at New.
func TestP15_1_TheSchemaIsNotKept(t *testing.T) {
	s := roomy()
	o := made(t, s, 9)
	add(t, o, spawn(pos, hp, look, vel, hue))
	for i := range s.Components {
		s.Components[i] = api.Component{Name: "x", Width: 4, Rollback: i == look, Default: [api.MaxWidth]int{-1, -1, -1, -1}}
	}
	s.Components = append(s.Components, api.Component{Name: "more", Width: 1})
	clear(s.Resources)
	x := staged(t)
	x.o = o
	wantRefused(t, o, spawn(comps), api.ErrArg)
	wantRefused(t, o, insert(3, comps), api.ErrArg)
	add(t, o, spawn(hue), insert(3, vel))
	if r, err := o.Flush(x.World); err != nil || r != (orders.Report{Done: 3}) {
		t.Errorf("Flush: %+v, %v", r, err)
	}
	x.wantThere("as the schema was", 6, first, second, being(3, began(4, vel)...),
		being(4, began(4, pos, hp, look, vel, hue)...), being(5, began(4, hue)...))
}

// TestP15_1_ListIsNewMemory: who changes what List answered, or grows it, changes neither what waits nor another answer.
func TestP15_1_ListIsNewMemory(t *testing.T) {
	x := staged(t)
	waiting := list(spawn(hp), despawn(2), remove(1, pos))
	add(t, x.o, waiting...)
	for range 2 {
		kept := x.o.List()
		got := x.o.List()
		for i := range got[:cap(got)] {
			got[:cap(got)][i] = despawn(1)
		}
		_ = append(got, despawn(3))
		wantTold(t, "what List answered is another one", x.o, len(waiting), 0, waiting...)
		if !slices.Equal(kept, waiting) {
			t.Errorf("another answer is %+v", kept)
		}
		add(t, x.o, insert(3, look))
		waiting = append(waiting, insert(3, look))
		if !slices.Equal(kept, waiting[:len(waiting)-1]) {
			t.Errorf("an answer ahead of Add is %+v", kept)
		}
	}
	kept := x.o.List()
	if r, err := x.o.Flush(x.World); err != nil || r != (orders.Report{Done: 4, Failed: 1}) {
		t.Errorf("Flush: %+v, %v", r, err)
	}
	x.o.Turn()
	add(t, x.o, despawn(7), despawn(8))
	if !slices.Equal(kept, waiting) {
		t.Errorf("an answer ahead of Flush is %+v, want %+v", kept, waiting)
	}
	x.wantThere("what was added", 5, being(1, first.Parts[1:]...), being(3, began(4, look)...), being(4, began(4, hp)...))
}

// TestP15_1_TwoHaveNothingInCommon, of one schema: each call of one is seen there, and nowhere else.
func TestP15_1_TwoHaveNothingInCommon(t *testing.T) {
	s := five()
	var all []*stage
	for range 3 {
		x := staged(t)
		x.o = made(t, s, 2)
		all = append(all, x)
	}
	tell := func(x *stage) string { return fmt.Sprint(x.o.List(), x.o.Given(), x.o.Dropped(), x.View()) }
	for i, x := range all {
		for n, call := range []func(){
			func() { x.o.Add(spawn(pos)) },
			func() { x.o.Add(despawn(1)) },
			func() { x.o.Add(spawn(pos)) },
			func() { x.o.Flush(x.World) },
			func() { x.o.Turn() },
		} {
			var before []string
			for _, other := range all {
				before = append(before, tell(other))
			}
			call()
			for j, other := range all {
				if now := tell(other); (now == before[j]) != (i != j) {
					t.Errorf("the call %d of %d: %d is %s, was %s", n, i, j, now, before[j])
				}
			}
		}
	}
}
