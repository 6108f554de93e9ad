// Package store is layer 9: entities with their components, in tables by their sets. See shared/doc/09-store.md.
package store

import "pasodoble/api"

// Store is entities with components.
type Store struct{}

// New: of a schema, for so many entities; ErrArg, and layer 5's. Spawn: an entity with parts; ErrNil, ErrArg, ErrTwice, ErrFull. Despawn: an entity less; its parts; ErrNil, ErrDead. Insert: a part more; ErrNil, ErrDead, ErrArg, ErrTwice. Remove: a part less; what it was; ErrNil, ErrDead, ErrNone. Put: a part is another one; what it was; ErrNil, ErrDead, ErrArg, ErrNone. Set: a cell is another one, in a frame; what the part was; ErrNil, ErrDead, ErrNone, ErrArg.
func New(s api.Schema, most int) (*Store, error) { return nil, nil }

func (s *Store) Spawn(parts ...api.Part) (api.Entity, error) { return api.Entity{}, nil }

func (s *Store) Despawn(e api.Entity) ([]api.Part, error) { return nil, nil }

func (s *Store) Insert(e api.Entity, p api.Part) error { return nil }

func (s *Store) Remove(e api.Entity, comp int) (api.Part, error) { return api.Part{}, nil }

func (s *Store) Put(e api.Entity, p api.Part) (api.Part, error) { return api.Part{}, nil }

func (s *Store) Set(e api.Entity, comp, cell, value, frame int) (api.Part, error) {
	return api.Part{}, nil
}

// Get: a part; ErrNil, ErrDead, ErrNone. Parts: all parts of an entity, by rising components; ErrNil, ErrDead. Mask: which it has; ErrNil, ErrDead. Alive: whether it is there. Count: how many there are. Match: the entities that have all of one set, and none of another one, by rising indices. Changed: those whose component was changed in a frame, or behind it, by rising indices. Tables: how many sets of components there are, or were.
func (s *Store) Get(e api.Entity, comp int) (api.Part, error) { return api.Part{}, nil }

func (s *Store) Parts(e api.Entity) ([]api.Part, error) { return nil, nil }

func (s *Store) Mask(e api.Entity) (api.Mask, error) { return 0, nil }

func (s *Store) Alive(e api.Entity) bool { return false }

func (s *Store) Count() int { return 0 }

func (s *Store) Match(with, without api.Mask) []api.Entity { return nil }

func (s *Store) Changed(comp, frame int) []api.Entity { return nil }

func (s *Store) Tables() int { return 0 }
