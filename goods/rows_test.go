package goods_test

import (
	"fmt"
	"math/big"
	"math/rand"
	"slices"
	"testing"

	"pasodoble/api"
	"pasodoble/goods"
)

// history is the chapter's words told another way: nothing is overwritten, each time that a number was set is a
// line behind the others, and what a number is its last line tells.
type history struct {
	begins []int
	lines  []line
}

type line struct{ place, value int }

func (h *history) get(i int) (int, bool) {
	for at := len(h.lines) - 1; at >= 0; at-- {
		if h.lines[at].place == i {
			return h.lines[at].value, true
		}
	}
	for place, value := range h.begins {
		if place == i {
			return value, true
		}
	}
	return 0, false
}

func (h *history) set(i, value int) (int, error) {
	was, ok := h.get(i)
	if !ok {
		return 0, api.ErrNone
	}
	h.lines = append(h.lines, line{i, value})
	return was, nil
}

// add works out the sum in as many bits as it needs, and takes the lowest 64 of them.
func (h *history) add(i, by int) (int, error) {
	was, ok := h.get(i)
	if !ok {
		return 0, api.ErrNone
	}
	sum := new(big.Int).Add(big.NewInt(int64(was)), big.NewInt(int64(by)))
	sum.Mod(sum, new(big.Int).Lsh(big.NewInt(1), 64))
	is := int(sum.Uint64())
	h.lines = append(h.lines, line{i, is})
	return is, nil
}

func (h *history) put(values []int) error {
	if len(values) != len(h.begins) {
		return api.ErrArg
	}
	before := h.all()
	for i := range values {
		if values[i] != before[i] {
			h.lines = append(h.lines, line{i, values[i]})
		}
	}
	return nil
}

func (h *history) all() []int {
	var list []int
	for i := range h.begins {
		value, _ := h.get(i)
		list = append(list, value)
	}
	return list
}

// drawnValue is mostly small, so that some are set to what they are already; else at an end, or any.
func drawnValue(r *rand.Rand) int {
	switch r.Intn(6) {
	case 0:
		return ends[r.Intn(len(ends))]
	case 1:
		return int(r.Uint64())
	}
	return r.Intn(5) - 2
}

func drawnPlace(r *rand.Rand, many int) int {
	if r.Intn(10) == 0 {
		return ends[r.Intn(len(ends))]
	}
	return r.Intn(many+2) - 1
}

// drawnRow is of as many numbers as there are, mostly, some of them those that are there.
func drawnRow(r *rand.Rand, h *history) []int {
	row := h.all()
	for i := range row {
		if r.Intn(2) == 0 {
			row[i] = drawnValue(r)
		}
	}
	switch r.Intn(6) {
	case 0:
		return append(row, drawnValue(r))
	case 1:
		return row[:len(row)-min(len(row), 1+r.Intn(3))]
	}
	return row
}

func wantSame(t *testing.T, name string, err, want error) {
	t.Helper()
	if want != nil {
		wants(t, name, err, want)
	} else if err != nil {
		t.Errorf("%s: %v", name, err)
	}
}

// oneCall makes a drawn call on both, and asks that both answer the same.
func oneCall(t *testing.T, r *rand.Rand, g *goods.Goods, h *history) {
	t.Helper()
	i, value := drawnPlace(r, len(h.begins)), drawnValue(r)
	var name string
	var got, want int
	var err, wantErr error
	switch r.Intn(3) {
	case 0:
		name = fmt.Sprint("Set ", i, ", ", value)
		got, err = g.Set(i, value)
		want, wantErr = h.set(i, value)
	case 1:
		name = fmt.Sprint("Add ", i, ", ", value)
		got, err = g.Add(i, value)
		want, wantErr = h.add(i, value)
	case 2:
		row := drawnRow(r, h)
		name = fmt.Sprint("Put ", row)
		handed := slices.Clone(row)
		err, wantErr = g.Put(handed...), h.put(row)
		clear(handed)
	}
	wantSame(t, name, err, wantErr)
	if got != want {
		t.Errorf("%s: %d, want %d", name, got, want)
	}
}

func TestP12_3_DrawnRowsOfCalls(t *testing.T) {
	for seed := range 180 {
		r := rand.New(rand.NewSource(int64(seed)))
		var begins []int
		for range seed % (api.MaxResources + 1) {
			begins = append(begins, drawnValue(r))
		}
		g, h := of(t, begins...), &history{begins: begins}
		for call := range 120 {
			name := fmt.Sprint("row ", seed, " call ", call)
			oneCall(t, r, g, h)
			wantAll(t, name, g, len(h.lines), h.all()...)
			if t.Failed() {
				t.Fatal(name)
			}
		}
	}
}

// TestP12_3_WhatIsSetIsGot sets each number by each call that can, and asks that all others stay.
func TestP12_3_WhatIsSetIsGot(t *testing.T) {
	begins := []int{11, 22, 33, 44, 55, 66, 77, 88}
	calls := map[string]func(g *goods.Goods, i, value int){
		"Set": func(g *goods.Goods, i, value int) { g.Set(i, value) },
		"Add": func(g *goods.Goods, i, value int) { g.Add(i, value-begins[i]) },
		"Put": func(g *goods.Goods, i, value int) {
			row := slices.Clone(begins)
			row[i] = value
			g.Put(row...)
		},
	}
	for name, call := range calls {
		for i := range begins {
			for _, value := range append([]int{0, 1}, ends...) {
				g := of(t, begins...)
				call(g, i, value)
				want := slices.Clone(begins)
				want[i] = value
				wantAll(t, fmt.Sprint(name, " ", i, " to ", value), g, 1, want...)
			}
		}
	}
}

// TestP12_3_TheSameCallsTellTheSame: two goods that are called alike are alike, whatever else is made beside them.
func TestP12_3_TheSameCallsTellTheSame(t *testing.T) {
	play := func() string {
		r := rand.New(rand.NewSource(12))
		begins := []int{5, 4, 3}
		g, h := of(t, begins...), &history{begins: begins}
		var told string
		for range 200 {
			oneCall(t, r, g, h)
			told += fmt.Sprintln(g.All(), g.Changes())
			of(t, begins...).Set(0, 1)
		}
		return told
	}
	first := play()
	for range 3 {
		if play() != first {
			t.Fatal("the same calls tell other numbers")
		}
	}
}
