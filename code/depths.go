package code

import (
	"slices"

	"pasodoble/api"
)

// never is the depth of a place that isn't come to.
const never = -1

// Depths answers how much lies on the stack ahead of each place up to the end, -1 if it is never come to; false, if
// that can't be told.
func Depths(list []api.Instr) ([]int, bool) {
	end := len(list)
	if slices.ContainsFunc(list, func(x api.Instr) bool { return leadsNowhere(x, end) }) {
		return nil, false
	}
	w := walk{depths: slices.Repeat([]int{never}, end+1)}
	w.come(0, 0)
	for len(w.open) > 0 {
		if place := w.leave(); place < end && !w.pass(place, list[place]) {
			return nil, false
		}
	}
	return w.depths, true
}

// leadsNowhere answers whether nothing can be told behind an instruction, wherever it stands.
func leadsNowhere(x api.Instr, end int) bool {
	elsewhere, _ := Jumps(x.Op)
	return !known(x.Op) || elsewhere && !isPlace(x.A, end)
}

// walk goes all ways through code, from each place once: behind it all goes as it went first, since one may come
// there again with the same depth alone.
type walk struct {
	depths []int // ahead of each place
	open   []int // the places that were come to, and not gone on from
}

// come comes to a place, with a depth; false, if it is another one than it was there before.
func (w *walk) come(place, depth int) bool {
	if w.depths[place] == never {
		w.depths[place] = depth
		w.open = append(w.open, place)
	}
	return w.depths[place] == depth
}

// leave takes one of the places to go on from.
func (w *walk) leave() int {
	last := len(w.open) - 1
	place := w.open[last]
	w.open = w.open[:last]
	return place
}

// pass goes on from a place, by its instruction, to all that follows; false, if it finds too little on the stack or
// lays too much, or if the depths of a place are unlike.
func (w *walk) pass(place int, x api.Instr) bool {
	takes, lays := Moves(x.Op)
	left := w.depths[place] - takes
	if left < 0 || left+lays > api.MaxStack {
		return false
	}
	elsewhere, next := Jumps(x.Op)
	return (!elsewhere || w.come(x.A, left+lays)) && (!next || w.come(place+1, left+lays))
}
