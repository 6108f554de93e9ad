package world

import (
	"pasodoble/api"
	"pasodoble/blame"
	"pasodoble/dice"
	"pasodoble/schema"
)

// Each change is noted as soon as nothing can refuse it any more: one that answers an error notes nothing.

// Spawn answers the number of a new entity with parts; ErrNil, ErrArg, ErrTwice, ErrFull.
func (w *World) Spawn(parts ...api.Part) (int, error) {
	if w == nil {
		return 0, blame.At("spawn", api.ErrNil)
	}
	next, id := w.badges.Next(), 0
	err := w.enter(parts, func(e api.Entity) (err error) {
		id, err = w.badges.Give(e)
		return err
	})
	if err != nil {
		return 0, blame.At("spawn", err)
	}
	w.note(api.Undo{Kind: api.UndoNext, Old: next})
	w.note(api.Undo{Kind: api.UndoSpawn, ID: id})
	return id, nil
}

// Despawn makes who has a number be gone; ErrNil, ErrDead.
func (w *World) Despawn(id int) error {
	parts, err := w.leave(id)
	if err != nil {
		return blame.At("despawn", err)
	}
	w.note(api.Undo{Kind: api.UndoDespawn, ID: id, Parts: parts})
	return nil
}

// Insert gives who has a number a component more, as its default is; ErrNil, ErrDead, ErrArg, ErrTwice.
func (w *World) Insert(id, comp int) error {
	e, err := w.find(id)
	if err != nil {
		return blame.At("insert", err)
	}
	p, err := schema.New(w.kinds, comp, w.frame)
	if err != nil {
		return blame.At("insert", err)
	}
	if err := w.store.Insert(e, p); err != nil {
		return blame.At("insert", err)
	}
	w.noteRolled(api.Undo{Kind: api.UndoInsert, ID: id, Part: api.Part{Comp: comp}})
	return nil
}

// Remove takes a component from who has a number; ErrNil, ErrDead, ErrNone.
func (w *World) Remove(id, comp int) error {
	e, err := w.find(id)
	if err != nil {
		return blame.At("remove", err)
	}
	was, err := w.store.Remove(e, comp)
	if err != nil {
		return blame.At("remove", err)
	}
	w.noteRolled(api.Undo{Kind: api.UndoRemove, ID: id, Part: was})
	return nil
}

// Set makes a cell of who has a number another one; ErrNil, ErrDead, ErrNone, ErrArg.
func (w *World) Set(id, comp, cell, value int) error {
	e, err := w.find(id)
	if err != nil {
		return blame.At("set", err)
	}
	was, err := w.store.Set(e, comp, cell, value, w.frame)
	if err != nil {
		return blame.At("set", err)
	}
	w.noteRolled(api.Undo{Kind: api.UndoCells, ID: id, Part: was})
	return nil
}

// Assign makes a resource another one; ErrNil, ErrNone.
func (w *World) Assign(i, value int) error {
	if w == nil {
		return blame.At("assign", api.ErrNil)
	}
	was, err := w.goods.Set(i, value)
	if err != nil {
		return blame.At("assign", err)
	}
	w.note(api.Undo{Kind: api.UndoResource, N: i, Old: was})
	return nil
}

// Draw answers a number that is drawn, from 0 to below a bound; ErrNil.
func (w *World) Draw(below int) (int, error) {
	if w == nil {
		return 0, blame.At("draw", api.ErrNil)
	}
	w.note(api.Undo{Kind: api.UndoSeed, Old: w.seed})
	seed, drawn := dice.Draw(w.seed, below)
	w.seed = seed
	return drawn, nil
}

// Tick makes the world go on by a frame; ErrNil, ErrFull.
func (w *World) Tick() error {
	if w == nil {
		return blame.At("tick", api.ErrNil)
	}
	if w.frame == api.MaxFrame {
		return blame.At("tick", api.ErrFull)
	}
	w.note(api.Undo{Kind: api.UndoFrame, Old: w.frame})
	w.frame++
	return nil
}

// note notes what takes a change back. What the journal can't take isn't told: the change is one all the same.
func (w *World) note(u api.Undo) {
	w.journal.Note(u)
}

// noteRolled notes what takes a change of a part back, unless its component is only shown.
func (w *World) noteRolled(u api.Undo) {
	if w.rollsBack(u.Part.Comp) {
		w.note(u)
	}
}

// enter lets an entity be there, with parts, if it gets a number; else it is gone at once, since nobody could ask
// for it. Its place is in another generation then, but handles are never told.
func (w *World) enter(parts []api.Part, number func(e api.Entity) error) error {
	e, err := w.store.Spawn(parts...)
	if err != nil {
		return err
	}
	if err := number(e); err != nil {
		w.store.Despawn(e)
		return err
	}
	return nil
}

// leave makes who has a number be gone, and answers its parts, by rising components; ErrNil, ErrDead.
func (w *World) leave(id int) ([]api.Part, error) {
	e, err := w.find(id)
	if err != nil {
		return nil, err
	}
	w.badges.Drop(id)
	return w.store.Despawn(e)
}
