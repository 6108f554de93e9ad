// Package store is layer 9: entities with their components, in tables by their sets. See shared/doc/09-store.md.
package store

import (
	"cmp"
	"slices"
	"strconv"

	"pasodoble/api"
	"pasodoble/atlas"
	"pasodoble/blame"
	"pasodoble/column"
	"pasodoble/roll"
	"pasodoble/schema"
)

// Store is entities with components.
type Store struct {
	widths []int // the components' widths, by their numbers
	sets   *atlas.Atlas
	// tables are those in which somebody stands, by their nodes: there are no more of them than entities, however
	// many sets there were. Which ones there were the atlas knows.
	tables map[int]*table
	places places
}

// places are a roll that knows where its entities stand. A store has it by a name: were it embedded there in its
// turn, who has a store could take and free places that its tables don't know of.
type places struct {
	*roll.Roll
	seats []seat // by the entities' indices
}

// seat is where an entity stands: a row of the table of a node.
type seat struct {
	node int
	row  int
}

// New answers a store of a schema, for so many entities; layer 5's errors, ErrArg.
func New(s api.Schema, most int) (*Store, error) {
	if err := schema.Check(s); err != nil {
		return nil, err
	}
	entities, err := roll.New(most)
	if err != nil {
		return nil, err
	}
	sets, err := atlas.New(len(s.Components))
	if err != nil {
		return nil, err
	}
	made := &Store{
		sets:   sets,
		tables: make(map[int]*table),
		places: places{Roll: entities, seats: make([]seat, most)},
	}
	for _, c := range s.Components {
		made.widths = append(made.widths, c.Width)
	}
	return made, nil
}

// Spawn answers a new entity with parts; ErrNil, ErrArg, ErrTwice, ErrFull.
func (s *Store) Spawn(parts ...api.Part) (api.Entity, error) {
	if s == nil {
		return api.Entity{}, blame.At("spawn", api.ErrNil)
	}
	if err := s.checkAll(parts); err != nil {
		return api.Entity{}, blame.At("spawn", err)
	}
	e, err := s.places.Take()
	if err != nil {
		return api.Entity{}, blame.At("spawn", err)
	}
	s.enter(e, parts)
	return e, nil
}

// Despawn makes an entity be gone, and answers its parts, by rising components; ErrNil, ErrDead.
func (s *Store) Despawn(e api.Entity) ([]api.Part, error) {
	if _, _, err := s.find(e); err != nil {
		return nil, blame.At("despawn", err)
	}
	parts := s.leave(e)
	if err := s.places.Free(e); err != nil {
		return nil, blame.At("despawn", err)
	}
	return parts, nil
}

// Insert gives an entity a part more; ErrNil, ErrDead, ErrArg, ErrTwice.
func (s *Store) Insert(e api.Entity, p api.Part) error {
	t, err := s.tableFor(e, p)
	if err != nil {
		return blame.At("insert", err)
	}
	if schema.Has(t.set, p.Comp) {
		return blame.At("insert", api.ErrTwice)
	}
	s.enter(e, append(s.leave(e), p))
	return nil
}

// Remove takes a part from an entity, and answers it; ErrNil, ErrDead, ErrNone.
func (s *Store) Remove(e api.Entity, comp int) (api.Part, error) {
	old, err := s.Get(e, comp)
	if err != nil {
		return api.Part{}, blame.At("remove", err)
	}
	s.enter(e, slices.DeleteFunc(s.leave(e), func(p api.Part) bool { return p.Comp == comp }))
	return old, nil
}

// Put makes a part of an entity another one, and answers it as it was; ErrNil, ErrDead, ErrArg, ErrNone.
func (s *Store) Put(e api.Entity, p api.Part) (api.Part, error) {
	if _, err := s.tableFor(e, p); err != nil {
		return api.Part{}, blame.At("put", err)
	}
	old, err := s.part(e, p.Comp, func(c *column.Column, row int) (api.Part, error) { return c.Put(row, p) })
	return old, blame.At("put", err)
}

// Set changes a cell of an entity's part, in a frame, and answers the part as it was; ErrNil, ErrDead, ErrNone, ErrArg.
func (s *Store) Set(e api.Entity, comp, cell, value, frame int) (api.Part, error) {
	old, err := s.part(e, comp, func(c *column.Column, row int) (api.Part, error) {
		return c.Set(row, cell, value, frame)
	})
	return old, blame.At("set", err)
}

// Get answers an entity's part; ErrNil, ErrDead, ErrNone.
func (s *Store) Get(e api.Entity, comp int) (api.Part, error) {
	p, err := s.part(e, comp, func(c *column.Column, row int) (api.Part, error) { return c.Row(row) })
	return p, blame.At("get", err)
}

// Parts answers all parts of an entity, by rising components; ErrNil, ErrDead.
func (s *Store) Parts(e api.Entity) ([]api.Part, error) {
	t, row, err := s.find(e)
	if err != nil {
		return nil, blame.At("parts", err)
	}
	return t.each(func(c *column.Column) (api.Part, error) { return c.Row(row) }), nil
}

// Mask answers which components an entity has; ErrNil, ErrDead.
func (s *Store) Mask(e api.Entity) (api.Mask, error) {
	t, _, err := s.find(e)
	if err != nil {
		return 0, blame.At("mask", err)
	}
	return t.set, nil
}

// Alive answers whether an entity is there.
func (s *Store) Alive(e api.Entity) bool { return s != nil && s.places.Alive(e) }

// Count answers how many entities there are.
func (s *Store) Count() int {
	if s == nil {
		return 0
	}
	return s.places.Count()
}

// Match answers the entities that have all of one set and none of another one, by rising indices.
func (s *Store) Match(with, without api.Mask) []api.Entity {
	return s.gather(func(t *table) []api.Entity {
		if schema.Within(with, t.set) && t.set&without == 0 {
			return t.owners
		}
		return nil
	})
}

// Changed answers the entities whose component was changed in a frame, or behind it, by rising indices.
func (s *Store) Changed(comp, frame int) []api.Entity {
	return s.gather(func(t *table) []api.Entity {
		var list []api.Entity
		for _, row := range t.columns[comp].Since(frame) {
			list = append(list, t.owners[row])
		}
		return list
	})
}

// Tables answers how many sets of components entities have, or had, the empty one too.
func (s *Store) Tables() int {
	if s == nil {
		return 0
	}
	return s.sets.Len()
}

// check answers what is wrong with a part; nil, if it fits the schema.
func (s *Store) check(p api.Part) error {
	if p.Comp < 0 || p.Comp >= len(s.widths) {
		return blame.At("comp", api.ErrArg)
	}
	if slices.ContainsFunc(p.Values[s.widths[p.Comp]:], func(cell int) bool { return cell != 0 }) {
		return blame.At("values", api.ErrArg)
	}
	return nil
}

// checkAll answers what is wrong with the parts of one entity. That one doesn't fit is told ahead of two with one
// Comp, wherever they stand: so all are gone through for the first ahead of the second.
func (s *Store) checkAll(parts []api.Part) error {
	for i, p := range parts {
		if err := s.check(p); err != nil {
			return blame.At(strconv.Itoa(i), err)
		}
	}
	var set api.Mask
	for i, p := range parts {
		if schema.Has(set, p.Comp) {
			return blame.At(strconv.Itoa(i), api.ErrTwice)
		}
		set = schema.With(set, p.Comp)
	}
	return nil
}

// find answers an entity's table, and its row there; ErrNil, ErrDead.
func (s *Store) find(e api.Entity) (*table, int, error) {
	if s == nil {
		return nil, 0, api.ErrNil
	}
	if !s.places.Alive(e) {
		return nil, 0, api.ErrDead
	}
	at := s.places.seats[e.Index]
	return s.tables[at.node], at.row, nil
}

// tableFor answers the table of an entity for which there is a part that fits; ErrNil, ErrDead, ErrArg.
func (s *Store) tableFor(e api.Entity, p api.Part) (*table, error) {
	t, _, err := s.find(e)
	if err != nil {
		return nil, err
	}
	if err := s.check(p); err != nil {
		return nil, err
	}
	return t, nil
}

// part answers what a call answers of an entity's part, by the column and the row in which it stands; ErrNil,
// ErrDead, ErrNone, and the call's own.
func (s *Store) part(e api.Entity, comp int, call func(c *column.Column, row int) (api.Part, error)) (api.Part, error) {
	t, row, err := s.find(e)
	if err != nil {
		return api.Part{}, err
	}
	c, there := t.columns[comp]
	if !there {
		return api.Part{}, api.ErrNone
	}
	return call(c, row)
}

// gather answers those entities of each table that are meant, by rising indices: tables stand in no order, and rows
// in the one in which they came to be filled.
func (s *Store) gather(meant func(t *table) []api.Entity) []api.Entity {
	if s == nil {
		return nil
	}
	var list []api.Entity
	for _, t := range s.tables {
		list = append(list, meant(t)...)
	}
	slices.SortFunc(list, func(a, b api.Entity) int { return cmp.Compare(a.Index, b.Index) })
	return list
}

// enter lets an entity that stands nowhere stand in the table of its parts' set, made if nobody stands there. The
// parts are those of one entity, and fit: so their set is one that can be.
func (s *Store) enter(e api.Entity, parts []api.Part) {
	var set api.Mask
	for _, p := range parts {
		set = schema.With(set, p.Comp)
	}
	node, _ := s.sets.At(set)
	t, there := s.tables[node]
	if !there {
		t = newTable(set, s.widths)
		s.tables[node] = t
	}
	s.places.seats[e.Index] = seat{node: node, row: t.push(e, parts)}
}

// leave takes an entity that is alive out of its table, and answers its parts, by rising components.
func (s *Store) leave(e api.Entity) []api.Part {
	at := s.places.seats[e.Index]
	t := s.tables[at.node]
	parts := t.take(at.row)
	if at.row < len(t.owners) {
		s.places.seats[t.owners[at.row].Index] = at
	}
	if len(t.owners) == 0 {
		delete(s.tables, at.node)
	}
	return parts
}
