package orders_test

import (
	"fmt"
	"math/rand"
	"slices"
	"testing"

	"pasodoble/api"
	"pasodoble/orders"
	"pasodoble/world"
)

// diary is the chapter's words told another way: all that was ever done, line by line. What is told is read from it.
type diary struct {
	many  int // components
	most  int
	lines []line
}

// line is a call that wasn't refused as one that can't be: a command that was added or dropped, a turn, a flush.
type line struct {
	call  string
	order api.Order
}

func (d *diary) write(call string, x api.Order) { d.lines = append(d.lines, line{call, x}) }

// behind are the lines behind the last one of a call; all, if there is none.
func (d *diary) behind(call string) []line {
	for i, l := range slices.Backward(d.lines) {
		if l.call == call {
			return d.lines[i+1:]
		}
	}
	return d.lines
}

// commands are those of lines of a call.
func commands(lines []line, call string) (list []api.Order) {
	for _, l := range lines {
		if l.call == call {
			list = append(list, l.order)
		}
	}
	return list
}

func (d *diary) given() int { return len(commands(d.behind("turn"), "added")) }

func (d *diary) dropped() int { return len(commands(d.lines, "dropped")) }

func (d *diary) waiting() []api.Order { return commands(d.behind("flush"), "added") }

// can is whether a command can be: by going through all that a set holds.
func (d *diary) can(x api.Order) bool {
	switch x.Kind {
	case api.OrderSpawn:
		for number := range 32 {
			if x.Mask>>number%2 == 1 && number >= d.many {
				return false
			}
		}
		return true
	case api.OrderDespawn:
		return true
	}
	return (x.Kind == api.OrderInsert || x.Kind == api.OrderRemove) && 0 <= x.Comp && x.Comp < d.many
}

func (d *diary) add(x api.Order) error {
	switch {
	case !d.can(x):
		return api.ErrArg
	case d.given() >= d.most:
		d.write("dropped", x)
		return api.ErrFull
	}
	d.write("added", x)
	return nil
}

// flush makes the calls of a world of its own that the commands are about.
func (d *diary) flush(w *world.World) (r orders.Report) {
	for _, x := range d.waiting() {
		var err error
		switch x.Kind {
		case api.OrderSpawn:
			var parts []api.Part
			for comp := range begin {
				if x.Mask>>comp%2 == 1 {
					parts = append(parts, began(w.Frame(), comp)...)
				}
			}
			_, err = w.Spawn(parts...)
		case api.OrderDespawn:
			err = w.Despawn(x.ID)
		case api.OrderInsert:
			err = w.Insert(x.ID, x.Comp)
		case api.OrderRemove:
			err = w.Remove(x.ID, x.Comp)
		}
		if err != nil {
			r.Failed++
		} else {
			r.Done++
		}
	}
	d.write("flush", api.Order{})
	return r
}

// drawnOrder is mostly one that can be, of somebody who may be there.
func drawnOrder(r *rand.Rand) api.Order {
	x := api.Order{
		Kind: 1 + r.Intn(4), ID: r.Intn(9), Mask: api.Mask(r.Intn(1 << comps)), Comp: r.Intn(comps),
	}
	switch r.Intn(16) {
	case 0:
		x.Kind = r.Intn(8) - 1
	case 1:
		x.Mask = api.Mask(r.Uint32())
	case 2:
		x.Comp = r.Intn(40) - 4
	case 3:
		n := ends[r.Intn(len(ends))]
		x.ID, x.Comp = n, n
	}
	return x
}

// row is a drawn row of calls, on commands over a world, and in the diary over a world of the same kind.
type row struct {
	*stage
	d     *diary
	twin  *world.World
	r     *rand.Rand
	total orders.Report // of all flushes
}

func newRow(t *testing.T, seed int) *row {
	most, places := seed%9, seed%6+1
	if seed%10 == 9 {
		most = api.MaxOrders
	}
	return &row{
		stage: &stage{t, fresh(t, five(), places), made(t, five(), most)},
		d:     &diary{many: comps, most: most},
		twin:  fresh(t, five(), places),
		r:     rand.New(rand.NewSource(int64(seed))),
	}
}

// add adds one command to both.
func (w *row) add(name string) {
	x := drawnOrder(w.r)
	err, want := w.o.Add(x), w.d.add(x)
	if want != nil {
		wants(w.T, fmt.Sprintf("%s: Add %+v", name, x), err, want)
	} else if err != nil {
		w.Errorf("%s: Add %+v: %v", name, x, err)
	}
}

// flush flushes both, and answers how many were done or failed.
func (w *row) flush(name string) int {
	want := w.d.flush(w.twin)
	r, err := w.o.Flush(w.World)
	if err != nil || r != want {
		w.Errorf("%s: Flush %+v, %v, want %+v", name, r, err, want)
	}
	w.total.Done += r.Done
	w.total.Failed += r.Failed
	return r.Done + r.Failed
}

func (w *row) turn() {
	w.o.Turn()
	w.d.write("turn", api.Order{})
}

// want asks all that is told, and that each command that was added waits still or came to something once.
func (w *row) want(name string) {
	waiting := w.d.waiting()
	wantTold(w.T, name, w.o, w.d.given(), w.d.dropped(), waiting...)
	if got, want := fmt.Sprint(w.View(), w.State()), fmt.Sprint(w.twin.View(), w.twin.State()); got != want {
		w.Errorf("%s: the world is\n%s\nwant\n%s", name, got, want)
	}
	if added := len(commands(w.d.lines, "added")); added != w.total.Done+w.total.Failed+len(waiting) {
		w.Errorf("%s: %d were added, %+v, %d wait", name, added, w.total, len(waiting))
	}
	if w.Failed() {
		w.Fatal(name)
	}
}

func TestP15_3_DrawnRowsOfCalls(t *testing.T) {
	for seed := range 200 {
		w := newRow(t, seed)
		for call := range 150 {
			name := fmt.Sprint("row ", seed, " call ", call)
			switch w.r.Intn(12) {
			case 0:
				w.flush(name)
			case 1:
				w.turn()
			case 2:
				w.Tick()
				w.twin.Tick()
			case 3:
				_, err := w.o.Flush(nil)
				wants(t, name, err, api.ErrNil)
			default:
				w.add(name)
			}
			w.want(name)
		}
	}
}

// TestP15_3_NeverMoreThanMostInAFrame: frames that each begin by Turn, with nothing that waits, have several flushes.
func TestP15_3_NeverMoreThanMostInAFrame(t *testing.T) {
	for seed := range 120 {
		w := newRow(t, seed)
		for frame := range 20 {
			w.turn()
			came := 0
			for flush := range 4 {
				name := fmt.Sprint("row ", seed, " frame ", frame, " flush ", flush)
				for range w.r.Intn(2 + w.d.most) {
					w.add(name)
				}
				came += w.flush(name)
				w.want(name)
			}
			if came > w.d.most || came != w.o.Given() {
				t.Fatalf("row %d: in the frame %d %d came to something, %d at most, %d were given", seed, frame, came, w.d.most, w.o.Given())
			}
			w.Tick()
			w.twin.Tick()
		}
	}
}

// TestP15_3_TheSameCallsTellTheSame, whatever else is made beside them.
func TestP15_3_TheSameCallsTellTheSame(t *testing.T) {
	play := func() (told string) {
		w := newRow(t, 49)
		for call := range 200 {
			w.add("again")
			if call%20 == 19 {
				w.flush("again")
				w.turn()
			}
			told += fmt.Sprintln(w.o.List(), w.o.Given(), w.o.Dropped(), w.View())
			add(t, made(t, five(), 1), spawn(pos))
		}
		return told
	}
	first := play()
	for range 3 {
		if play() != first {
			t.Fatal("the same calls tell something else")
		}
	}
}
