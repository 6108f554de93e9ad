package store

import (
	"pasodoble/api"
	"pasodoble/column"
	"pasodoble/schema"
)

// table is the entities that have the same set of components, row by row: an owner, and a row of each column.
type table struct {
	set    api.Mask
	owners []api.Entity
	// columns are the set's, by components. A component is looked up there as it was handed in: so one that is none
	// is found as little as one that the set hasn't.
	columns map[int]*column.Column
}

// newTable answers a table without rows, of a set of components whose widths are told.
func newTable(set api.Mask, widths []int) *table {
	t := &table{set: set, columns: make(map[int]*column.Column)}
	for _, comp := range schema.List(set) {
		t.columns[comp], _ = column.New(comp, widths[comp]) // a schema that can be has only columns that can be
	}
	return t
}

// each answers what a call answers of each column, by rising components. The call is one of a row that is there.
func (t *table) each(call func(c *column.Column) (api.Part, error)) []api.Part {
	var parts []api.Part
	for _, comp := range schema.List(t.set) {
		p, _ := call(t.columns[comp])
		parts = append(parts, p)
	}
	return parts
}

// push adds an entity with its parts, one of each of the set's components, as the last row, and answers its number.
// That they fit was asked ahead of all changes, so no column refuses one.
func (t *table) push(e api.Entity, parts []api.Part) int {
	for _, p := range parts {
		t.columns[p.Comp].Push(p)
	}
	t.owners = append(t.owners, e)
	return len(t.owners) - 1
}

// take takes a row that is there out, and answers its parts, by rising components. As in the columns, the last row
// comes in its place.
func (t *table) take(row int) []api.Part {
	parts := t.each(func(c *column.Column) (api.Part, error) { return c.Take(row) })
	last := len(t.owners) - 1
	t.owners[row] = t.owners[last]
	t.owners = t.owners[:last]
	return parts
}
