package column_test

import (
	"errors"
	"fmt"
	"math"
	"math/rand"
	"slices"
	"testing"

	"pasodoble/api"
	"pasodoble/blame"
	"pasodoble/column"
)

// ends are numbers at both ends of 64 bits and of 32 bits, and some that wrap round to a small one by 2, 3 or 4.
var ends = []int{
	math.MinInt, math.MinInt + 1, -1 << 62, -1<<62 + 1, -1 << 32, -1<<32 + 1, math.MinInt32, -2, -1,
	1<<31 - 1, 1 << 31, 1<<32 - 1, 1 << 32, 1<<32 + 1, 6148914691236517206, 1 << 61, 1 << 62, 1<<62 + 1,
	math.MaxInt - 1, math.MaxInt,
}

// values that a cell or a Tick may be.
var values = []int{0, 1, -1, 7, 1 << 32, math.MinInt, math.MaxInt}

const comp = 3

func part(tick int, cells ...int) api.Part {
	p := api.Part{Comp: comp, Tick: tick}
	copy(p.Values[:], cells)
	return p
}

// full is a part that fits a width, with all its cells apart from each other and from those of other rows.
func full(width, n int) api.Part {
	p := part(100 + n)
	for cell := range width {
		p.Values[cell] = 10*n + cell + 1
	}
	return p
}

// fulls are so many parts of a width, each another one.
func fulls(width, rows int) []api.Part {
	var list []api.Part
	for n := range rows {
		list = append(list, full(width, n))
	}
	return list
}

// misfits are parts that don't fit a column of comp with a width: of another component, or with something behind
// the width; the rest of each fits.
func misfits(width int) []api.Part {
	var list []api.Part
	others := append([]int{0, 1, comp - 1, comp + 1, api.MaxComponents - 1, api.MaxComponents, comp + 16, comp + 256, comp + 1<<32}, ends...)
	for _, other := range others {
		p := full(width, 1)
		p.Comp = other
		list = append(list, p)
	}
	for cell := width; cell < api.MaxWidth; cell++ {
		for _, value := range values[1:] {
			p := full(width, 1)
			p.Values[cell] = value
			list = append(list, p)
		}
	}
	if width+1 < api.MaxWidth {
		p := full(width, 1)
		p.Values[width], p.Values[width+1] = 5, -5
		list = append(list, p)
	}
	both := part(1, 1, 2, 3, 4)
	both.Comp = comp + 1
	return append(list, both)
}

func made(t *testing.T, width int, rows ...api.Part) *column.Column {
	t.Helper()
	c, err := column.New(comp, width)
	if c == nil || err != nil {
		t.Fatalf("New %d, %d: %v, %v", comp, width, c, err)
	}
	for n, p := range rows {
		if got, err := c.Push(p); got != n || err != nil {
			t.Fatalf("Push %v: %d, %v, want %d", p, got, err, n)
		}
	}
	return c
}

// wants asks that just this one of the named errors is told.
func wants(t *testing.T, name string, err, want error) {
	t.Helper()
	if !errors.Is(err, want) || len(blame.Leaves(err)) != 1 {
		t.Errorf("%s: %v %v, want %v", name, err, blame.Leaves(err), want)
	}
}

// wantsNoPart asks that an error is told, and no part beside it.
func wantsNoPart(t *testing.T, name string, p api.Part, err, want error) {
	t.Helper()
	wants(t, name, err, want)
	if p != (api.Part{}) {
		t.Errorf("%s: %v beside the error", name, p)
	}
}

// wantPart asks that a call answers a part and no error.
func wantPart(t *testing.T, name string, p api.Part, err error, want api.Part) {
	t.Helper()
	if p != want || err != nil {
		t.Fatalf("%s: %v, %v, want %v", name, p, err, want)
	}
}

// wantRows asks that a column has just these rows.
func wantRows(t *testing.T, name string, c *column.Column, want ...api.Part) {
	t.Helper()
	if c.Len() != len(want) {
		t.Fatalf("%s: Len %d, want %d", name, c.Len(), len(want))
	}
	for n, row := range want {
		p, err := c.Row(n)
		wantPart(t, fmt.Sprintf("%s: Row %d", name, n), p, err, row)
	}
	p, err := c.Row(len(want))
	wantsNoPart(t, name+": one row more", p, err, api.ErrNone)
	if got := c.Since(math.MinInt); len(got) != len(want) {
		t.Fatalf("%s: Since the least frame %v, want all of %d rows", name, got, len(want))
	}
}

// wantSince asks that these rows were changed in a frame or behind it.
func wantSince(t *testing.T, name string, c *column.Column, frame int, want ...int) {
	t.Helper()
	if got := c.Since(frame); !slices.Equal(got, want) {
		t.Errorf("%s: Since %d: %v, want %v", name, frame, got, want)
	}
}

func TestP7_1_New(t *testing.T) {
	for of := range api.MaxComponents {
		for width := 1; width <= api.MaxWidth; width++ {
			c, err := column.New(of, width)
			if c == nil || err != nil {
				t.Fatalf("New %d, %d: %v, %v", of, width, c, err)
			}
			wantRows(t, "at first", c)
			p := full(width, 1)
			p.Comp = of
			if n, err := c.Push(p); n != 0 || err != nil {
				t.Errorf("Push to %d, %d: %d, %v", of, width, n, err)
			}
			wantRows(t, "behind Push", c, p)
		}
	}
}

func TestP7_1_NewOfWhatCantBe(t *testing.T) {
	wrongComps := append([]int{16, 17, 31, 32, 255, 256, 257}, ends...)
	wrongWidths := append([]int{0, 5, 6, 255, 256, 257}, ends...)
	wrong := func(of, width int) {
		c, err := column.New(of, width)
		wants(t, fmt.Sprintf("New %d, %d", of, width), err, api.ErrArg)
		if c != nil {
			t.Errorf("New %d, %d: a column beside the error", of, width)
		}
	}
	for _, of := range wrongComps {
		for width := 1; width <= api.MaxWidth; width++ {
			wrong(of, width)
		}
		for _, width := range wrongWidths {
			wrong(of, width)
		}
	}
	for _, width := range wrongWidths {
		for of := range api.MaxComponents {
			wrong(of, width)
		}
	}
}

func TestP7_1_Push(t *testing.T) {
	for width := 1; width <= api.MaxWidth; width++ {
		c := made(t, width)
		var want []api.Part
		for n := range 200 {
			p := full(width, n)
			if got, err := c.Push(p); got != n || err != nil {
				t.Fatalf("Push %v: %d, %v, want %d", p, got, err, n)
			}
			want = append(want, p)
			if c.Len() != n+1 {
				t.Fatalf("Len %d behind %d rows", c.Len(), n+1)
			}
		}
		wantRows(t, "all that was pushed", c, want...)
	}
}

func TestP7_1_PushOfAnyNumbers(t *testing.T) {
	for width := 1; width <= api.MaxWidth; width++ {
		c := made(t, width)
		var want []api.Part
		for cell := range width {
			for _, value := range values {
				for _, tick := range slices.Concat(values, ends) {
					p := part(tick)
					p.Values[cell] = value
					want = append(want, p)
					if _, err := c.Push(p); err != nil {
						t.Fatalf("Push %v at the width %d: %v", p, width, err)
					}
				}
			}
		}
		wantRows(t, fmt.Sprint("width ", width), c, want...)
	}
}

func TestP7_1_SamePartTwice(t *testing.T) {
	p := part(4, 1, 2)
	wantRows(t, "one part, three rows", made(t, 2, p, p, p), p, p, p)
	wantRows(t, "parts of nothing", made(t, 2, part(0), part(0)), part(0), part(0))
}

func TestP7_1_PushOfWhatDoesntFit(t *testing.T) {
	for width := 1; width <= api.MaxWidth; width++ {
		empty, c := made(t, width), made(t, width, fulls(width, 3)...)
		for _, p := range misfits(width) {
			for _, to := range []*column.Column{empty, c} {
				n, err := to.Push(p)
				wants(t, fmt.Sprintf("Push %v at the width %d", p, width), err, api.ErrArg)
				if n != 0 {
					t.Errorf("Push %v: %d beside the error", p, n)
				}
			}
		}
		wantRows(t, "behind all the errors", empty)
		wantRows(t, "behind all the errors", c, fulls(width, 3)...)
		if n, err := c.Push(full(width, 3)); n != 3 || err != nil {
			t.Errorf("the next Push: %d, %v", n, err)
		}
		wantRows(t, "behind the next Push", c, fulls(width, 4)...)
	}
}

func TestP7_1_ZeroPartFitsComponent0Alone(t *testing.T) {
	for of := range api.MaxComponents {
		c, err := column.New(of, 4)
		if err != nil {
			t.Fatal(err)
		}
		if _, err := c.Push(api.Part{}); (err == nil) != (of == 0) {
			t.Errorf("the zero part, in a column of %d: %v", of, err)
		}
	}
}

// TestP7_1_NilColumn asks every call of a nil column, also with arguments at which something else is wrong.
func TestP7_1_NilColumn(t *testing.T) {
	var c *column.Column
	for _, p := range append(misfits(2), part(1, 2), api.Part{}) {
		n, err := c.Push(p)
		wants(t, "Push", err, api.ErrNil)
		if n != 0 {
			t.Error("Push beside ErrNil:", n)
		}
		for _, n := range append(ends, 0, 1) {
			old, err := c.Put(n, p)
			wantsNoPart(t, "Put", old, err, api.ErrNil)
		}
	}
	for _, n := range append(ends, 0, 1, 2, 3, 4) {
		p, err := c.Row(n)
		wantsNoPart(t, "Row", p, err, api.ErrNil)
		p, err = c.Take(n)
		wantsNoPart(t, "Take", p, err, api.ErrNil)
		for _, m := range append(ends, 0, 1, 4) {
			p, err = c.Set(n, m, m, n)
			wantsNoPart(t, "Set", p, err, api.ErrNil)
		}
		if got := c.Since(n); len(got) != 0 {
			t.Errorf("Since %d: %v", n, got)
		}
		if c.Len() != 0 {
			t.Error("Len", c.Len())
		}
	}
}

func TestP7_1_ColumnsAreApart(t *testing.T) {
	a, b := made(t, 2, fulls(2, 2)...), made(t, 2, fulls(2, 2)...)
	a.Push(full(2, 2))
	wantRows(t, "Push to the other one", b, fulls(2, 2)...)
	a.Set(0, 1, -9, 500)
	a.Put(1, part(501, -8))
	wantRows(t, "Set and Put of the other one", b, fulls(2, 2)...)
	wantSince(t, "Set and Put of the other one", b, 500)
	a.Take(0)
	a.Take(0)
	wantRows(t, "Take of the other one", b, fulls(2, 2)...)
	wantRows(t, "a new one", made(t, 2))
}

// none are numbers of no row, of so many rows.
func none(rows int) []int {
	return append([]int{rows, rows + 1, rows + 2, 2*rows + 1, -rows - 1, 64}, ends...)
}

func TestP7_2_NoSuchRow(t *testing.T) {
	for width := 1; width <= api.MaxWidth; width++ {
		for _, rows := range []int{0, 1, 2, 5} {
			c := made(t, width, fulls(width, rows)...)
			for _, n := range none(rows) {
				name := fmt.Sprintf("%d of %d rows, width %d", n, rows, width)
				p, err := c.Row(n)
				wantsNoPart(t, "Row "+name, p, err, api.ErrNone)
				p, err = c.Set(n, 0, -1, 900)
				wantsNoPart(t, "Set "+name, p, err, api.ErrNone)
				p, err = c.Put(n, full(width, 9))
				wantsNoPart(t, "Put "+name, p, err, api.ErrNone)
			}
			wantRows(t, "behind all the errors", c, fulls(width, rows)...)
			wantSince(t, "behind all the errors", c, 900)
		}
	}
}

// TestP7_2_NoSuchRowAheadOfWrongArguments asks which error is told where several things are wrong at once.
func TestP7_2_NoSuchRowAheadOfWrongArguments(t *testing.T) {
	for width := 1; width <= api.MaxWidth; width++ {
		for _, rows := range []int{0, 3} {
			c := made(t, width, fulls(width, rows)...)
			for _, n := range none(rows) {
				for _, cell := range append(ends, width, width+1) {
					p, err := c.Set(n, cell, 1, 1)
					wantsNoPart(t, fmt.Sprintf("Set %d, %d", n, cell), p, err, api.ErrNone)
				}
				for _, wrong := range misfits(width) {
					p, err := c.Put(n, wrong)
					wantsNoPart(t, fmt.Sprintf("Put %d, %v", n, wrong), p, err, api.ErrNone)
				}
			}
			wantRows(t, "behind all the errors", c, fulls(width, rows)...)
		}
	}
}

func TestP7_2_Set(t *testing.T) {
	for width := 1; width <= api.MaxWidth; width++ {
		want := fulls(width, 4)
		c := made(t, width, want...)
		for _, frame := range slices.Concat(values, ends) {
			for _, value := range values {
				for n := range want {
					for cell := range width {
						name := fmt.Sprintf("Set %d, %d, %d, %d", n, cell, value, frame)
						old, err := c.Set(n, cell, value, frame)
						wantPart(t, name, old, err, want[n])
						want[n].Values[cell] = value
						want[n].Tick = frame
						wantRows(t, name, c, want...)
					}
				}
			}
		}
	}
}

func TestP7_2_SetOfWhatItIsAlready(t *testing.T) {
	c := made(t, 2, part(7, 1, 2))
	old, err := c.Set(0, 0, 1, 3)
	wantPart(t, "the same value, in an earlier frame", old, err, part(7, 1, 2))
	wantRows(t, "its Tick is the frame", c, part(3, 1, 2))
	old, err = c.Set(0, 1, 2, 3)
	wantPart(t, "the same value, in the same frame", old, err, part(3, 1, 2))
	wantRows(t, "nothing is another one", c, part(3, 1, 2))
}

func TestP7_2_SetOfNoCell(t *testing.T) {
	for width := 1; width <= api.MaxWidth; width++ {
		want := fulls(width, 3)
		c := made(t, width, want...)
		for n := range want {
			for _, cell := range append([]int{width, width + 1, 4, 5, 2 * width, -width, 256, 1 << 16}, ends...) {
				p, err := c.Set(n, cell, -1, 900)
				wantsNoPart(t, fmt.Sprintf("Set %d, %d at the width %d", n, cell, width), p, err, api.ErrArg)
			}
		}
		wantRows(t, "behind all the errors", c, want...)
		wantSince(t, "behind all the errors", c, 900)
	}
}

func TestP7_2_Put(t *testing.T) {
	for width := 1; width <= api.MaxWidth; width++ {
		want := fulls(width, 4)
		c := made(t, width, want...)
		for _, tick := range slices.Concat(values, ends) {
			for _, value := range values {
				for n := range want {
					for cell := range width {
						p := part(tick)
						p.Values[cell] = value
						name := fmt.Sprintf("Put %d, %v", n, p)
						old, err := c.Put(n, p)
						wantPart(t, name, old, err, want[n])
						want[n] = p
						wantRows(t, name, c, want...)
					}
				}
			}
		}
	}
}

func TestP7_2_PutOfWhatDoesntFit(t *testing.T) {
	for width := 1; width <= api.MaxWidth; width++ {
		want := fulls(width, 3)
		c := made(t, width, want...)
		for n := range want {
			for _, p := range misfits(width) {
				old, err := c.Put(n, p)
				wantsNoPart(t, fmt.Sprintf("Put %d, %v at the width %d", n, p, width), old, err, api.ErrArg)
			}
		}
		wantRows(t, "behind all the errors", c, want...)
	}
}

func TestP7_2_PutBackWhatWas(t *testing.T) {
	want := fulls(3, 3)
	c := made(t, 3, want...)
	set, _ := c.Set(1, 2, -5, 900)
	put, _ := c.Put(1, part(901, 8, 8, 8))
	old, err := c.Put(1, put)
	wantPart(t, "back behind Set", old, err, part(901, 8, 8, 8))
	old, err = c.Put(1, set)
	wantPart(t, "back at first", old, err, put)
	wantRows(t, "as at first", c, want...)
}

func TestP7_3_Example(t *testing.T) {
	a, b, c := part(1, 1), part(2, 2), part(3, 3)
	rows := made(t, 1, a, b, c)
	old, err := rows.Take(0)
	wantPart(t, "Take 0", old, err, a)
	wantRows(t, "behind Take", rows, c, b)
}

// without is what the chapter says of rows of which one is taken.
func without(rows []api.Part, n int) []api.Part {
	left := slices.Clone(rows)
	left[n] = left[len(left)-1]
	return left[:len(left)-1]
}

func TestP7_3_Take(t *testing.T) {
	for width := 1; width <= api.MaxWidth; width++ {
		for rows := 1; rows <= 6; rows++ {
			for n := range rows {
				name := fmt.Sprintf("Take %d of %d, width %d", n, rows, width)
				want := fulls(width, rows)
				c := made(t, width, want...)
				old, err := c.Take(n)
				wantPart(t, name, old, err, want[n])
				want = without(want, n)
				wantRows(t, name, c, want...)
				next, err := c.Push(full(width, 50))
				if next != rows-1 || err != nil {
					t.Fatalf("%s, then Push: %d, %v, want %d", name, next, err, rows-1)
				}
				wantRows(t, name+", then Push", c, append(want, full(width, 50))...)
			}
		}
	}
}

func TestP7_3_TakeOfTheOnlyRow(t *testing.T) {
	for width := 1; width <= api.MaxWidth; width++ {
		c := made(t, width)
		for n := range 5 {
			p := full(width, n)
			if got, err := c.Push(p); got != 0 || err != nil {
				t.Fatalf("Push to none: %d, %v", got, err)
			}
			old, err := c.Take(0)
			wantPart(t, "Take of the only row", old, err, p)
			wantRows(t, "behind it", c)
			old, err = c.Take(0)
			wantsNoPart(t, "Take of none", old, err, api.ErrNone)
		}
	}
}

func TestP7_3_NothingStaysOfARowThatIsTaken(t *testing.T) {
	for width := 1; width <= api.MaxWidth; width++ {
		c := made(t, width, fulls(width, 2)...)
		c.Take(1)
		wantSince(t, "its Tick is gone", c, 101)
		c.Push(part(0))
		wantRows(t, "its cells are gone", c, full(width, 0), part(0))
		wantSince(t, "the new one's Tick holds", c, 1, 0)
	}
}

func TestP7_3_NoSuchRow(t *testing.T) {
	for width := 1; width <= api.MaxWidth; width++ {
		for _, rows := range []int{0, 1, 2, 5} {
			c := made(t, width, fulls(width, rows)...)
			for _, n := range none(rows) {
				p, err := c.Take(n)
				wantsNoPart(t, fmt.Sprintf("Take %d of %d, width %d", n, rows, width), p, err, api.ErrNone)
			}
			wantRows(t, "behind all the errors", c, fulls(width, rows)...)
		}
	}
}

func TestP7_3_LastRowOnlyComesInItsPlace(t *testing.T) {
	want := fulls(2, 5)
	c := made(t, 2, want...)
	c.Take(1)
	old, err := c.Set(1, 0, -3, 900)
	wantPart(t, "Set of the row in its place", old, err, want[4])
	moved := want[4]
	moved.Values[0], moved.Tick = -3, 900
	wantRows(t, "there is one of it", c, want[0], moved, want[2], want[3])
	old, err = c.Take(4)
	wantsNoPart(t, "where it was", old, err, api.ErrNone)
}

func TestP7_3_TakeAll(t *testing.T) {
	for _, pick := range []func(left int) int{
		func(int) int { return 0 },
		func(left int) int { return left - 1 },
		func(left int) int { return left / 2 },
	} {
		want := fulls(3, 40)
		c := made(t, 3, want...)
		for len(want) > 0 {
			n := pick(len(want))
			old, err := c.Take(n)
			wantPart(t, fmt.Sprintf("Take %d of %d", n, len(want)), old, err, want[n])
			want = without(want, n)
			wantRows(t, "what is left", c, want...)
		}
	}
}

func TestP7_4_Since(t *testing.T) {
	c := made(t, 1, part(5), part(3), part(9), part(5), part(-2), part(0))
	for frame, want := range map[int][]int{
		math.MinInt: {0, 1, 2, 3, 4, 5}, -3: {0, 1, 2, 3, 4, 5}, -2: {0, 1, 2, 3, 4, 5}, -1: {0, 1, 2, 3, 5}, 0: {0, 1, 2, 3, 5},
		1: {0, 1, 2, 3}, 3: {0, 1, 2, 3}, 4: {0, 2, 3}, 5: {0, 2, 3}, 6: {2}, 9: {2}, 10: nil, math.MaxInt: nil,
	} {
		wantSince(t, "some Ticks", c, frame, want...)
	}
}

func TestP7_4_SinceOfNoRows(t *testing.T) {
	for _, frame := range append(ends, 0, 1) {
		wantSince(t, "no rows", made(t, 2), frame)
	}
}

func TestP7_4_SinceAtTheEnds(t *testing.T) {
	for _, tick := range append(ends, 0, 1, api.MaxFrame) {
		c := made(t, 2, part(tick), part(tick, 1))
		wantSince(t, "at the Ticks", c, tick, 0, 1)
		wantSince(t, "at the least", c, math.MinInt, 0, 1)
		if tick > math.MinInt {
			wantSince(t, "below the Ticks", c, tick-1, 0, 1)
		}
		if tick < math.MaxInt {
			wantSince(t, "above the Ticks", c, tick+1)
			wantSince(t, "at the greatest", c, math.MaxInt)
		}
	}
	wantSince(t, "both ends", made(t, 2, part(math.MinInt), part(math.MaxInt), part(math.MinInt+1)), math.MinInt, 0, 1, 2)
	wantSince(t, "both ends", made(t, 2, part(math.MinInt), part(math.MaxInt), part(math.MinInt+1)), math.MinInt+1, 1, 2)
	wantSince(t, "both ends", made(t, 2, part(math.MinInt), part(math.MaxInt), part(math.MinInt+1)), math.MaxInt, 1)
}

func TestP7_4_SinceGoesWithTheRows(t *testing.T) {
	c := made(t, 2, part(1), part(2), part(3), part(4))
	wantSince(t, "as pushed", c, 3, 2, 3)
	c.Set(0, 0, 5, 9)
	wantSince(t, "behind Set", c, 3, 0, 2, 3)
	c.Set(2, 1, 5, 1)
	wantSince(t, "behind Set in an earlier frame", c, 3, 0, 3)
	c.Put(1, part(3, 8))
	wantSince(t, "behind Put", c, 3, 0, 1, 3)
	c.Put(3, part(0))
	wantSince(t, "behind Put of an earlier Tick", c, 3, 0, 1)
	c.Push(part(7))
	wantSince(t, "behind Push", c, 3, 0, 1, 4)
	c.Take(2)
	wantSince(t, "behind Take: the last one is 2", c, 3, 0, 1, 2)
	c.Take(2)
	wantSince(t, "behind Take: the last one is 2", c, 3, 0, 1)
	c.Take(0)
	wantSince(t, "behind Take: the last one is 0", c, 3, 1)
}

func TestP7_4_SinceRises(t *testing.T) {
	var want []int
	c := made(t, 1)
	for n := range 3000 {
		c.Push(part(n * 7919 % 1000))
		if n*7919%1000 >= 400 {
			want = append(want, n)
		}
	}
	for range 3 {
		wantSince(t, "many rows", c, 400, want...)
	}
}

func TestP7_4_SinceIsNewMemory(t *testing.T) {
	want := fulls(2, 5)
	c := made(t, 2, want...)
	for _, frame := range []int{math.MinInt, 100, 102, 104} {
		told, other := c.Since(frame), c.Since(frame)
		kept := slices.Clone(told)
		for i := range told[:cap(told)] {
			told[:cap(told)][i] = -7
		}
		if !slices.Equal(other, kept) || !slices.Equal(c.Since(frame), kept) {
			t.Errorf("Since %d: %v, %v, want %v", frame, other, c.Since(frame), kept)
		}
		wantRows(t, "who changes a list", c, want...)
	}
	told := c.Since(0)
	c.Take(0)
	c.Set(1, 0, 0, -900)
	if !slices.Equal(told, []int{0, 1, 2, 3, 4}) {
		t.Error("a list that was told changes with the column:", told)
	}
}

// TestP7_2_PartsAreNewMemory asks that neither who changes a part that was handed in or told changes the column,
// nor the column a part that was told.
func TestP7_2_PartsAreNewMemory(t *testing.T) {
	spoil := func(p *api.Part) {
		for cell := range p.Values {
			p.Values[cell] = -7
		}
		p.Comp, p.Tick = -7, -7
	}
	p := full(4, 0)
	c := made(t, 4)
	c.Push(p)
	spoil(&p)
	wantRows(t, "who changes what was pushed", c, full(4, 0))
	row, _ := c.Row(0)
	kept := row
	c.Set(0, 0, 99, 99)
	if row != kept {
		t.Error("a row that was told changes with the column:", row)
	}
	p = full(4, 1)
	old, _ := c.Put(0, p)
	spoil(&p)
	spoil(&old)
	spoil(&row)
	wantRows(t, "who changes what was put, and what was told", c, full(4, 1))
	set, _ := c.Set(0, 0, 99, 99)
	spoil(&set)
	c.Push(full(4, 2))
	taken, _ := c.Take(0)
	spoil(&taken)
	wantRows(t, "who changes what was taken", c, full(4, 2))
}

func TestP7_2_AskingChangesNothing(t *testing.T) {
	want := fulls(3, 3)
	c := made(t, 3, want...)
	for range 3 {
		for _, n := range append(ends, 0, 1, 2, 3) {
			c.Row(n)
			c.Since(n)
			c.Len()
		}
		wantRows(t, "behind asking", c, want...)
	}
}

// pair is a column beside the chapter's words told another way: the rows as a list of parts.
type pair struct {
	*testing.T
	c     *column.Column
	width int
	rows  []api.Part
}

func (p *pair) fits(q api.Part) bool {
	fits := q.Comp == comp
	for cell, value := range q.Values {
		fits = fits && (cell < p.width || value == 0)
	}
	return fits
}

func (p *pair) there(n int) bool { return n >= 0 && n < len(p.rows) }

// told holds what a call answered against what it should.
func (p *pair) told(name string, got api.Part, err error, want api.Part, wrong error) {
	p.Helper()
	if wrong != nil {
		want = api.Part{}
	}
	if got != want || !errors.Is(err, wrong) {
		p.Fatalf("%s behind %v: %v, %v, want %v, %v", name, p.rows, got, err, want, wrong)
	}
}

// at answers the row n, or the error of a call that wants it and something that may be wrong.
func (p *pair) at(n int, right bool) (api.Part, error) {
	switch {
	case !p.there(n):
		return api.Part{}, api.ErrNone
	case !right:
		return p.rows[n], api.ErrArg
	}
	return p.rows[n], nil
}

func (p *pair) push(q api.Part) {
	p.Helper()
	n, err := p.c.Push(q)
	if !p.fits(q) {
		wants(p.T, fmt.Sprint("Push ", q), err, api.ErrArg)
		return
	}
	if n != len(p.rows) || err != nil {
		p.Fatalf("Push %v: %d, %v, want %d", q, n, err, len(p.rows))
	}
	p.rows = append(p.rows, q)
}

func (p *pair) set(n, cell, value, frame int) {
	p.Helper()
	want, wrong := p.at(n, cell >= 0 && cell < p.width)
	got, err := p.c.Set(n, cell, value, frame)
	p.told(fmt.Sprintf("Set %d, %d", n, cell), got, err, want, wrong)
	if wrong == nil {
		p.rows[n].Values[cell], p.rows[n].Tick = value, frame
	}
}

func (p *pair) put(n int, q api.Part) {
	p.Helper()
	want, wrong := p.at(n, p.fits(q))
	got, err := p.c.Put(n, q)
	p.told(fmt.Sprintf("Put %d, %v", n, q), got, err, want, wrong)
	if wrong == nil {
		p.rows[n] = q
	}
}

func (p *pair) take(n int) {
	p.Helper()
	want, wrong := p.at(n, true)
	got, err := p.c.Take(n)
	p.told(fmt.Sprint("Take ", n), got, err, want, wrong)
	if wrong == nil {
		p.rows = without(p.rows, n)
	}
}

// same asks that the column tells what the list says.
func (p *pair) same(frame int) {
	p.Helper()
	wantRows(p.T, "a row of calls", p.c, p.rows...)
	var want []int
	for n, row := range p.rows {
		if row.Tick >= frame {
			want = append(want, n)
		}
	}
	wantSince(p.T, "a row of calls", p.c, frame, want...)
}

// TestP7_3_DrawnRowsOfCalls plays calls that are drawn, right and wrong ones.
func TestP7_3_DrawnRowsOfCalls(t *testing.T) {
	draw := rand.New(rand.NewSource(7))
	for round := range 400 {
		p := &pair{T: t, width: round%api.MaxWidth + 1}
		p.c = made(t, p.width)
		some := func() api.Part {
			q := part(draw.Intn(20) - 5)
			for cell := range min(p.width+draw.Intn(8)/7, api.MaxWidth) {
				q.Values[cell] = draw.Intn(9) - 4
			}
			q.Comp += draw.Intn(12) / 11
			return q
		}
		pushes := draw.Intn(4) + 1
		for range 60 {
			n := draw.Intn(len(p.rows)+3) - 1
			switch kind := draw.Intn(10); {
			case kind < pushes:
				p.push(some())
			case kind < 6:
				p.set(n, draw.Intn(p.width+2)-1, draw.Int(), draw.Intn(20)-5)
			case kind < 8:
				p.put(n, some())
			default:
				p.take(n)
			}
			p.same(draw.Intn(22) - 6)
		}
	}
}
