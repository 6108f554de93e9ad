package code_test

import (
	"math/rand"
	"slices"
	"testing"

	"pasodoble/api"
	"pasodoble/code"
)

// runner goes through code step by step, as the next chapter says that code is run: with a stack of numbers, of which
// those that come from elsewhere are drawn.
type runner struct {
	l     []api.Instr
	r     *rand.Rand
	place int
	stack []int
	met   []standing
}

// step does one instruction, and answers what went wrong. It tells by itself how many numbers lie there.
func (m *runner) step() error {
	m.met = append(m.met, standing{m.place, len(m.stack)})
	x := m.l[m.place]
	if x.Op < 0 || x.Op > 35 {
		return api.ErrOp
	}
	r := table[x.Op]
	if r.takes > len(m.stack) || len(m.stack)-r.takes+r.lays > 16 {
		return api.ErrStack
	}
	taken := m.stack[len(m.stack)-r.takes:]
	m.stack = slices.Clone(m.stack[:len(m.stack)-r.takes])
	for range r.lays {
		m.stack = append(m.stack, m.r.Intn(2))
	}
	jumps := r.word == "jump" || r.word == "zero"
	if jumps && (x.A < 0 || x.A > len(m.l)) {
		return api.ErrJump
	}
	switch {
	case r.word == "halt":
		m.place = len(m.l)
	case r.word == "jump", r.word == "zero" && taken[0] == 0:
		m.place = x.A
	default:
		m.place++
	}
	return nil
}

// run goes on till the end, or as long as fuel may last, and answers what went wrong. A way to the end by halt isn't
// met: what follows halt is nothing.
func (m *runner) run(fuel int) error {
	for range fuel {
		if m.place == len(m.l) {
			if last := len(m.met) - 1; last < 0 || m.l[m.met[last].place].Op != api.OpHalt {
				m.met = append(m.met, standing{m.place, len(m.stack)})
			}
			return nil
		}
		if err := m.step(); err != nil {
			return err
		}
	}
	return nil
}

// ready is an instruction behind others which lay what it takes.
func ready(x api.Instr) []api.Instr { return append(pushes(table[x.Op].takes), x) }

// TestP16_4_WhatCheckAcceptsCanBeRun: drawn code that Check accepts is run, with numbers drawn anew, several times.
// Each place is met with the depth that Depths tells, and nothing goes wrong.
func TestP16_4_WhatCheckAcceptsCanBeRun(t *testing.T) {
	r := source(164)
	ran := 0
	for n := range 12000 {
		l := drawnRight(r, r.Intn(65))
		if n%3 == 0 {
			l = drawnList(r, r.Intn(5))
		}
		if code.Check(five(), l) != nil {
			continue
		}
		depths, ok := code.Depths(l)
		if !ok || len(depths) != len(l)+1 {
			t.Fatalf("%v is accepted: Depths %v, %v", l, depths, ok)
		}
		for range 4 {
			m := &runner{l: l, r: r}
			if err := m.run(500); err != nil {
				t.Fatalf("%v is accepted: %v at %d", l, err, m.place)
			}
			for _, s := range m.met {
				if depths[s.place] != s.depth {
					t.Fatalf("%v: at %d lie %d, Depths %v", l, s.place, s.depth, depths)
				}
			}
		}
		ran++
	}
	if ran < 2000 {
		t.Errorf("%d were accepted: too few to tell", ran)
	}
}

// TestP16_4_WhatIsRefusedForItsStackGoesWrongOrIsUnlike: of what only the stack is wrong with some way goes wrong, or
// comes to a place as it never did before; so nothing is refused without need.
func TestP16_4_WhatIsRefusedForItsStackGoesWrongOrIsUnlike(t *testing.T) {
	r := source(165)
	for range 3000 {
		l := drawnRight(r, 1+r.Intn(20))
		if code.Check(five(), l) == nil {
			continue
		}
		wantCheck(t, "drawn", five(), l, "code 12")
		at := make(map[int]int)
		wrong := false
		for try := 0; try < 4000 && !wrong; try++ {
			m := &runner{l: l, r: r}
			wrong = m.run(300) != nil
			for _, s := range m.met {
				depth, met := at[s.place]
				wrong = wrong || met && depth != s.depth
				at[s.place] = s.depth
			}
		}
		if !wrong {
			t.Fatalf("%v is refused, and runs", l)
		}
	}
}

// TestP16_4_WhatIsOnlyShownIsNeverRead: what Check accepts reads rolled back components alone.
func TestP16_4_WhatIsOnlyShownIsNeverRead(t *testing.T) {
	r := source(166)
	s := five()
	read := 0
	for range 20000 {
		l := drawnList(r, 1+r.Intn(3))
		if code.Check(s, l) != nil {
			continue
		}
		for _, x := range l {
			if x.Op != api.OpLoad && x.Op != api.OpHas {
				continue
			}
			read++
			if !s.Components[x.A].Rollback {
				t.Fatalf("%v is accepted", l)
			}
		}
	}
	if read < 200 {
		t.Errorf("%d were read: too few to tell", read)
	}
}

// TestP16_4_AcceptedCodeOfEachOperation: each one is accepted somewhere, and is run there.
func TestP16_4_AcceptedCodeOfEachOperation(t *testing.T) {
	for _, row := range table {
		l := ready(ins(row.op))
		if err := code.Check(five(), l); err != nil {
			t.Errorf("%s: %v", row.word, leaves(err))
		}
		if row.word == "jump" || row.word == "zero" {
			l = ready(ins(row.op, row.takes+1))
		}
		m := &runner{l: l, r: source(int64(row.op))}
		if err := m.run(api.MaxFuel); err != nil || m.place != len(l) {
			t.Errorf("%s: %v at %d", row.word, err, m.place)
		}
	}
}
