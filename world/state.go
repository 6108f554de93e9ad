package world

import (
	"cmp"
	"slices"
	"strconv"

	"pasodoble/api"
	"pasodoble/blame"
	"pasodoble/schema"
)

// Build answers a world as a state says; layer 9's errors, ErrArg, ErrTwice, ErrFull.
func Build(s api.Schema, most int, st api.State) (*World, error) {
	w, err := New(s, most, st.Seed)
	if err != nil {
		return nil, err
	}
	if err := w.fill(st); err != nil {
		return nil, blame.At("build", err)
	}
	return w, nil
}

// State answers all that is rolled back.
func (w *World) State() api.State {
	if w == nil {
		return api.State{}
	}
	beings := w.View()
	for i, b := range beings {
		beings[i].Parts = slices.DeleteFunc(b.Parts, func(p api.Part) bool { return !w.rollsBack(p.Comp) })
	}
	return api.State{
		Frame:     w.frame,
		Next:      w.badges.Next(),
		Seed:      w.seed,
		Beings:    beings,
		Resources: w.goods.All(),
	}
}

// View answers all entities with all their parts, by rising numbers.
func (w *World) View() []api.Being {
	if w == nil {
		return nil
	}
	var list []api.Being
	for _, id := range w.badges.List() {
		parts, _ := w.Parts(id) // who has a number is there
		list = append(list, api.Being{ID: id, Parts: parts})
	}
	return list
}

// Same answers whether two states are the same.
func Same(a, b api.State) bool {
	return a.Frame == b.Frame && a.Next == b.Next && a.Seed == b.Seed &&
		slices.EqualFunc(a.Beings, b.Beings, sameBeing) && slices.Equal(a.Resources, b.Resources)
}

func sameBeing(a, b api.Being) bool { return a.ID == b.ID && slices.Equal(a.Parts, b.Parts) }

// fill makes a world that has nobody yet be as a state says, as if all of it were taken back to there. What can't be
// is told ahead of what is there twice, and that ahead of a lack of places, wherever they stand: so all beings are
// looked through ahead of the first one's coming, and then nothing but a place can be lacking.
func (w *World) fill(st api.State) error {
	err := cmp.Or(
		blame.At("frame", w.undo(api.Undo{Kind: api.UndoFrame, Old: st.Frame})),
		blame.At("next", w.undo(api.Undo{Kind: api.UndoNext, Old: st.Next})),
		blame.At("resources", w.goods.Put(st.Resources...)),
		blame.At("beings", w.checkBeings(st)),
		blame.At("beings", checkTwice(st.Beings)),
	)
	if err != nil {
		return err
	}
	for _, b := range st.Beings {
		if err := w.undo(api.Undo{Kind: api.UndoDespawn, ID: b.ID, Parts: b.Parts}); err != nil {
			return blame.At("beings", err)
		}
	}
	return nil
}

// checkBeings answers ErrArg at the first being of a state that can't be one of this world's.
func (w *World) checkBeings(st api.State) error {
	last := 0
	for i, b := range st.Beings {
		if b.ID <= last || b.ID >= st.Next || slices.ContainsFunc(b.Parts, w.cantHave) {
			return blame.At(strconv.Itoa(i), api.ErrArg)
		}
		last = b.ID
	}
	return nil
}

// checkTwice answers ErrTwice at the first being with two parts of one component.
func checkTwice(beings []api.Being) error {
	for i, b := range beings {
		var set api.Mask
		for _, p := range b.Parts {
			set = schema.With(set, p.Comp)
		}
		if schema.Count(set) < len(b.Parts) {
			return blame.At(strconv.Itoa(i), api.ErrTwice)
		}
	}
	return nil
}

// cantHave answers whether a part is none of a state's: of a component that isn't rolled back, or one that doesn't fit.
func (w *World) cantHave(p api.Part) bool {
	if !w.rollsBack(p.Comp) {
		return true
	}
	behind := p.Values[w.kinds.Components[p.Comp].Width:]
	return slices.ContainsFunc(behind, func(cell int) bool { return cell != 0 })
}
