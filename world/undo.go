package world

import (
	"pasodoble/api"
	"pasodoble/blame"
)

// Undo takes a change back, and notes nothing; ErrNil, ErrArg, and what it meets.
func (w *World) Undo(u api.Undo) error {
	if w == nil {
		return blame.At("undo", api.ErrNil)
	}
	return blame.At("undo", w.undo(u))
}

func (w *World) undo(u api.Undo) error {
	switch u.Kind {
	case api.UndoCells, api.UndoInsert, api.UndoRemove:
		return w.undoPart(u)
	case api.UndoSpawn:
		return only(w.leave(u.ID))
	case api.UndoDespawn:
		return w.enter(u.Parts, func(e api.Entity) error { return w.badges.Pin(u.ID, e) })
	case api.UndoResource:
		return only(w.goods.Set(u.N, u.Old))
	case api.UndoNext:
		return only(w.badges.Turn(u.Old))
	case api.UndoSeed:
		w.seed = u.Old
		return nil
	case api.UndoFrame:
		if u.Old >= 0 && u.Old <= api.MaxFrame {
			w.frame = u.Old
			return nil
		}
		fallthrough
	default:
		return api.ErrArg
	}
}

// undoPart takes back what was done to a part of somebody who is there.
func (w *World) undoPart(u api.Undo) error {
	e, err := w.find(u.ID)
	if err != nil {
		return err
	}
	switch u.Kind {
	case api.UndoInsert:
		return only(w.store.Remove(e, u.Part.Comp))
	case api.UndoRemove:
		return w.store.Insert(e, u.Part)
	}
	return only(w.store.Put(e, u.Part))
}

// only leaves of a call's answers the error alone: what was there ahead of an undo isn't asked for.
func only[T any](_ T, err error) error { return err }
