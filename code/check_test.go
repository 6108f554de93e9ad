package code_test

import (
	"errors"
	"fmt"
	"math"
	"slices"
	"strings"
	"testing"

	"pasodoble/api"
	"pasodoble/blame"
	"pasodoble/code"
)

// The components of most tests' schema; comps is how many there are, ress how many resources.
const (
	pos, look, hp, hue, vel = 0, 1, 2, 3, 4

	comps = 5
	ress  = 2
)

// five is a schema of the components pos, hp, vel, rolled back, and look, hue, only shown, the last one of both kinds
// as wide as can be.
func five() api.Schema {
	return api.Schema{
		Components: []api.Component{
			{Name: "pos", Width: 2, Rollback: true},
			{Name: "look", Width: 3},
			{Name: "hp", Width: 1, Rollback: true, Default: [api.MaxWidth]int{9}},
			{Name: "hue", Width: 4},
			{Name: "vel", Width: 4, Rollback: true},
		},
		Resources: []api.Resource{{Name: "score", Value: 3}, {Name: "time"}},
	}
}

// ends are numbers far from those that most things are.
var ends = []int{
	math.MinInt, math.MinInt + 1, math.MinInt32, -1 << 32, -65, -64, -2, 1 << 16, math.MaxInt32, 1 << 31, 1 << 32,
	1<<32 + 1, 1 << 33, 1 << 62, math.MaxInt - 1, math.MaxInt,
}

// list is a row of instructions.
func list(x ...api.Instr) []api.Instr { return x }

// ins is an instruction; what isn't told of A and B is 0.
func ins(op int, args ...int) api.Instr {
	x := api.Instr{Op: op}
	if len(args) > 0 {
		x.A = args[0]
	}
	if len(args) > 1 {
		x.B = args[1]
	}
	return x
}

// leaves are what an error tells, each thing as its way and its number.
func leaves(err error) (got []string) {
	for _, leaf := range blame.Leaves(err) {
		got = append(got, fmt.Sprint(leaf.Path, " ", leaf.Number))
	}
	return got
}

// wantCheck asks that Check tells just these things, in this order.
func wantCheck(t *testing.T, name string, s api.Schema, l []api.Instr, want ...string) {
	t.Helper()
	err := code.Check(s, l)
	if got := leaves(err); !slices.Equal(got, want) {
		t.Errorf("%s: Check %v: %q, want %q", name, cut(l), got, want)
	}
	if (err == nil) != (len(want) == 0) {
		t.Errorf("%s: Check %v: %v, want %q", name, cut(l), err, want)
	}
	for _, named := range []error{api.ErrArg, api.ErrLong, api.ErrStack, api.ErrJump, api.ErrOp} {
		number := fmt.Sprint(" ", blame.Number(named))
		told := slices.ContainsFunc(want, func(word string) bool { return strings.HasSuffix(word, number) })
		if errors.Is(err, named) != told {
			t.Errorf("%s: Check %v: errors.Is %v: %v", name, cut(l), named, !told)
		}
	}
}

// cut is a list, or the beginning of a long one.
func cut(l []api.Instr) []api.Instr { return l[:min(len(l), 70)] }

// wantAlone asks what is wrong with one instruction, which stands alone. If nothing is, it stands where it is never
// come to, so that nothing is wrong with the stack either.
func wantAlone(t *testing.T, s api.Schema, x api.Instr, want ...string) {
	t.Helper()
	name := fmt.Sprint(x)
	if len(want) == 0 {
		wantCheck(t, name, s, list(ins(api.OpHalt), x))
		return
	}
	for i := range want {
		want[i] = "code/0/" + want[i]
	}
	wantCheck(t, name, s, list(x), want...)
}

// wrong is what the document asks of an instruction, told another way: word by word, as ways and numbers.
func wrong(s api.Schema, x api.Instr, end int) (words []string) {
	if x.Op < 0 || x.Op >= api.Ops {
		return []string{"op 14"}
	}
	r := table[x.Op]
	var c *api.Component
	for i := range s.Components {
		if i == x.A {
			c = &s.Components[i]
		}
	}
	bad := map[string]bool{
		"input":  x.A != 0 && x.A != 1,
		"res":    x.A < 0 || x.A >= len(s.Resources),
		"setres": x.A < 0 || x.A >= len(s.Resources),
		"insert": c == nil,
		"remove": c == nil,
		"store":  c == nil,
		"load":   c == nil || !c.Rollback,
		"has":    c == nil || !c.Rollback,
		"spawn":  x.A < 0 || hasBitFrom(x.A, len(s.Components)),
	}[r.word]
	nowhere := (r.word == "jump" || r.word == "zero") && (x.A < 0 || x.A > end)
	switch {
	case nowhere:
		words = append(words, "a 13")
	case bad || !r.readsA && x.A != 0:
		words = append(words, "a 1")
	}
	if !r.readsB && x.B != 0 || r.readsB && !bad && (x.B < 0 || x.B >= c.Width) {
		words = append(words, "b 1")
	}
	return words
}

// hasBitFrom is whether a number from 0 on has a bit at a place or above it, found by halving.
func hasBitFrom(n, place int) bool {
	for range place {
		n /= 2
	}
	return n > 0
}

// wrongAll is what the document asks of code, but for its depths.
func wrongAll(s api.Schema, l []api.Instr) (words []string) {
	if len(l) > 64 {
		words = append(words, "code 4")
	}
	for i, x := range l {
		for _, word := range wrong(s, x, len(l)) {
			words = append(words, fmt.Sprint("code/", i, "/", word))
		}
	}
	return words
}

func TestP16_2_CheckOfWhatCanBe(t *testing.T) {
	for name, l := range map[string][]api.Instr{
		"none":            nil,
		"empty":           {},
		"nop":             {ins(api.OpNop)},
		"halt":            {ins(api.OpHalt)},
		"the example":     {ins(api.OpPush, 3), ins(api.OpPush, 4), ins(api.OpAdd)},
		"to itself":       {ins(api.OpJump, 0)},
		"to the end":      {ins(api.OpJump, 1)},
		"a move":          {ins(api.OpLoad, pos, 1), ins(api.OpInput, 1), ins(api.OpAdd), ins(api.OpStore, pos, 1)},
		"writes a look":   {ins(api.OpPush, 1), ins(api.OpStore, look, 2)},
		"a score":         {ins(api.OpRes, 1), ins(api.OpNeg), ins(api.OpSetRes, 0)},
		"commands":        {ins(api.OpSpawn, 31), ins(api.OpDespawn), ins(api.OpInsert, hue), ins(api.OpRemove, look)},
		"a draw":          {ins(api.OpPush, 6), ins(api.OpRand), ins(api.OpID), ins(api.OpFrame), ins(api.OpXor), ins(api.OpLt)},
		"one way of two":  {ins(api.OpHas, vel), ins(api.OpZero, 4), ins(api.OpPush, 1), ins(api.OpStore, vel, 3), ins(api.OpNop)},
		"round and round": {ins(api.OpPush, 9), ins(api.OpPush, 1), ins(api.OpSub), ins(api.OpDup), ins(api.OpZero, 6), ins(api.OpJump, 1), ins(api.OpDrop)},
	} {
		wantCheck(t, name, five(), l)
	}
}

func TestP16_2_CheckOfLength(t *testing.T) {
	for _, x := range []api.Instr{ins(api.OpNop), ins(api.OpDespawn), ins(api.OpHalt), ins(api.OpInsert, look)} {
		for _, many := range []int{0, 1, 63, 64} {
			wantCheck(t, fmt.Sprint(many), five(), slices.Repeat(list(x), many))
		}
		for _, many := range []int{65, 66, 128, 1000, 1 << 16} {
			wantCheck(t, fmt.Sprint(many), five(), slices.Repeat(list(x), many), "code 4")
		}
	}
}

// TestP16_2_CheckOfLongAndWrong: what is too long is looked through all the same, to its end.
func TestP16_2_CheckOfLongAndWrong(t *testing.T) {
	l := make([]api.Instr, 66)
	l[0] = ins(api.OpPush, 0, 1)
	l[64] = ins(36)
	l[65] = ins(api.OpJump, 67)
	wantCheck(t, "three", five(), l, "code 4", "code/0/b 1", "code/64/op 14", "code/65/a 13")
	l = make([]api.Instr, 65)
	l[64] = ins(api.OpJump, 65)
	wantCheck(t, "to the end", five(), l, "code 4")
	l[0] = ins(api.OpAdd)
	wantCheck(t, "too little on the stack", five(), l, "code 4")
	l[64] = ins(api.OpLoad, look, 9)
	wantCheck(t, "a wrong last one", five(), l, "code 4", "code/64/a 1")
}

func TestP16_2_CheckOfNoOperation(t *testing.T) {
	for _, op := range noOps {
		for _, x := range []api.Instr{ins(op), ins(op, -1), ins(op, 0, -1), ins(op, 9, 9), ins(op, math.MinInt, math.MaxInt)} {
			wantAlone(t, five(), x, "op 14")
		}
	}
	wantCheck(t, "each", five(), list(ins(-1), ins(api.OpNop), ins(36, 1, 1)), "code/0/op 14", "code/2/op 14")
}

func TestP16_2_CheckOfJumps(t *testing.T) {
	for _, op := range []int{api.OpJump, api.OpZero} {
		for _, end := range []int{1, 2, 3, 10, 64} {
			for _, place := range append([]int{-2, -1, 0, 1, end - 1, end, end + 1, end + 2}, ends...) {
				// The jump stands last, behind what goes past it: so nothing is wrong with the stack.
				l := append(slices.Repeat(list(ins(api.OpHalt)), end-1), ins(op, place))
				if end == 1 && op == api.OpZero {
					continue
				}
				if place >= 0 && place <= end {
					wantCheck(t, "somewhere", five(), l)
				} else {
					wantCheck(t, "nowhere", five(), l, fmt.Sprint("code/", end-1, "/a 13"))
				}
			}
		}
		wantAlone(t, five(), ins(op, -1, 1), "a 13", "b 1")
		wantAlone(t, five(), ins(op, 0, -1), "b 1")
	}
	wantCheck(t, "zero to 0", five(), list(ins(api.OpZero, 0)), "code 12")
	wantCheck(t, "zero to the end", five(), list(ins(api.OpPush), ins(api.OpZero, 2)))
	wantCheck(t, "zero behind it", five(), list(ins(api.OpPush), ins(api.OpZero, 3)), "code/1/a 13")
}

// TestP16_2_CheckOfCells: load and store, at each component and each cell.
func TestP16_2_CheckOfCells(t *testing.T) {
	s := five()
	for comp, c := range s.Components {
		for _, cell := range append([]int{-1, 0, 1, 2, 3, 4, 5}, ends...) {
			in := cell >= 0 && cell < c.Width
			switch {
			case !c.Rollback:
				wantAlone(t, s, ins(api.OpLoad, comp, cell), "a 1")
			case in:
				wantAlone(t, s, ins(api.OpLoad, comp, cell))
			default:
				wantAlone(t, s, ins(api.OpLoad, comp, cell), "b 1")
			}
			if in {
				wantAlone(t, s, ins(api.OpStore, comp, cell))
			} else {
				wantAlone(t, s, ins(api.OpStore, comp, cell), "b 1")
			}
		}
	}
	for _, comp := range append([]int{-1, comps, comps + 1}, ends...) {
		for _, cell := range append([]int{-1, 0, 1, 4}, ends...) {
			wantAlone(t, s, ins(api.OpLoad, comp, cell), "a 1")
			wantAlone(t, s, ins(api.OpStore, comp, cell), "a 1")
		}
	}
}

// TestP16_2_CheckOfTheExamplesSchema: the edges of a schema in which they are other numbers than in five.
func TestP16_2_CheckOfTheExamplesSchema(t *testing.T) {
	s := api.Schema{Components: []api.Component{{Name: "look", Width: 1}, {Name: "pos", Width: 3, Rollback: true}}}
	wantAlone(t, s, ins(api.OpLoad, 0, 0), "a 1")
	wantAlone(t, s, ins(api.OpLoad, 1, 2))
	wantAlone(t, s, ins(api.OpLoad, 1, 3), "b 1")
	wantAlone(t, s, ins(api.OpStore, 0, 0))
	wantAlone(t, s, ins(api.OpStore, 0, 1), "b 1")
	wantAlone(t, s, ins(api.OpStore, 2, 0), "a 1")
	wantAlone(t, s, ins(api.OpHas, 0), "a 1")
	wantAlone(t, s, ins(api.OpHas, 1))
	wantAlone(t, s, ins(api.OpSpawn, 3))
	wantAlone(t, s, ins(api.OpSpawn, 4), "a 1")
	wantAlone(t, s, ins(api.OpInsert, 0))
	wantAlone(t, s, ins(api.OpRemove, 2), "a 1")
	wantAlone(t, s, ins(api.OpRes, 0), "a 1")
}

func TestP16_2_CheckOfHas(t *testing.T) {
	for _, comp := range []int{pos, hp, vel} {
		wantAlone(t, five(), ins(api.OpHas, comp))
		wantAlone(t, five(), ins(api.OpHas, comp, 1), "b 1")
	}
	for _, comp := range append([]int{-1, look, hue, comps, comps + 1}, ends...) {
		wantAlone(t, five(), ins(api.OpHas, comp), "a 1")
		wantAlone(t, five(), ins(api.OpHas, comp, -1), "a 1", "b 1")
	}
}

func TestP16_2_CheckOfInput(t *testing.T) {
	for _, player := range []int{0, 1} {
		wantAlone(t, five(), ins(api.OpInput, player))
		wantAlone(t, five(), ins(api.OpInput, player, 1), "b 1")
	}
	for _, player := range append([]int{-1, 2, 3}, ends...) {
		wantAlone(t, five(), ins(api.OpInput, player), "a 1")
		wantAlone(t, five(), ins(api.OpInput, player, -1), "a 1", "b 1")
	}
}

func TestP16_2_CheckOfResources(t *testing.T) {
	none := five()
	none.Resources = nil
	many := five()
	many.Resources = make([]api.Resource, api.MaxResources)
	for _, op := range []int{api.OpRes, api.OpSetRes} {
		for i := range ress {
			wantAlone(t, five(), ins(op, i))
			wantAlone(t, five(), ins(op, i, 1), "b 1")
		}
		for _, i := range append([]int{-1, ress, ress + 1}, ends...) {
			wantAlone(t, five(), ins(op, i), "a 1")
			wantAlone(t, five(), ins(op, i, 1), "a 1", "b 1")
		}
		for i := range api.MaxResources {
			wantAlone(t, many, ins(op, i))
		}
		wantAlone(t, many, ins(op, api.MaxResources), "a 1")
		for _, i := range append([]int{-1, 0, 1}, ends...) {
			wantAlone(t, none, ins(op, i), "a 1")
		}
	}
}

func TestP16_2_CheckOfSpawn(t *testing.T) {
	for set := range 1 << comps {
		wantAlone(t, five(), ins(api.OpSpawn, set))
		wantAlone(t, five(), ins(api.OpSpawn, set, 1), "b 1")
		for bit := comps; bit < 63; bit++ {
			wantAlone(t, five(), ins(api.OpSpawn, set|1<<bit), "a 1")
		}
		wantAlone(t, five(), ins(api.OpSpawn, math.MinInt|set), "a 1")
		wantAlone(t, five(), ins(api.OpSpawn, -1-set), "a 1")
	}
	for _, set := range append([]int{-1, 1 << comps, 1<<comps + 1}, ends...) {
		wantAlone(t, five(), ins(api.OpSpawn, set), "a 1")
		wantAlone(t, five(), ins(api.OpSpawn, set, 9), "a 1", "b 1")
	}
}

func TestP16_2_CheckOfSpawnByTheSchema(t *testing.T) {
	none := api.Schema{Resources: five().Resources}
	wantAlone(t, none, ins(api.OpSpawn, 0))
	for _, set := range append([]int{-1, 1, 2}, ends...) {
		wantAlone(t, none, ins(api.OpSpawn, set), "a 1")
	}
	for many := 1; many <= api.MaxComponents; many++ {
		s := api.Schema{Components: make([]api.Component, many)}
		wantAlone(t, s, ins(api.OpSpawn, 1<<many-1))
		wantAlone(t, s, ins(api.OpSpawn, 1<<(many-1)))
		wantAlone(t, s, ins(api.OpSpawn, 1<<many), "a 1")
		wantAlone(t, s, ins(api.OpSpawn, 1<<many+1), "a 1")
		wantAlone(t, s, ins(api.OpSpawn, 1<<32), "a 1")
		wantAlone(t, s, ins(api.OpSpawn, -1<<many), "a 1")
	}
	// A set's numbers go to 31, however many components there are.
	for _, many := range []int{32, 33, 64, 70} {
		s := api.Schema{Components: make([]api.Component, many)}
		wantAlone(t, s, ins(api.OpSpawn, 1<<32-1))
		wantAlone(t, s, ins(api.OpSpawn, 1<<32), "a 1")
		wantAlone(t, s, ins(api.OpSpawn, math.MaxInt), "a 1")
		wantAlone(t, s, ins(api.OpSpawn, math.MinInt), "a 1")
		wantAlone(t, s, ins(api.OpSpawn, -1), "a 1")
	}
}

func TestP16_2_CheckOfInsertAndRemove(t *testing.T) {
	for _, op := range []int{api.OpInsert, api.OpRemove} {
		for comp := range comps {
			wantAlone(t, five(), ins(op, comp))
			wantAlone(t, five(), ins(op, comp, -1), "b 1")
		}
		for _, comp := range append([]int{-1, comps, comps + 1}, ends...) {
			wantAlone(t, five(), ins(op, comp), "a 1")
			wantAlone(t, five(), ins(op, comp, 1), "a 1", "b 1")
		}
	}
}

// TestP16_2_CheckOfWhatIsNotRead: it has to be 0, of push B alone.
func TestP16_2_CheckOfWhatIsNotRead(t *testing.T) {
	for _, r := range table {
		for _, n := range append([]int{-1, 1, 2, 63, 64}, ends...) {
			if !r.readsA {
				wantAlone(t, five(), ins(r.op, n), "a 1")
				wantAlone(t, five(), ins(r.op, n, n), "a 1", "b 1")
			}
			if !r.readsB {
				wantAlone(t, five(), ins(r.op, 0, n), "b 1")
			}
		}
		wantAlone(t, five(), ins(r.op))
	}
	for _, n := range append([]int{-1, 0, 1, 2, 63, 64}, ends...) {
		wantAlone(t, five(), ins(api.OpPush, n))
	}
}

// TestP16_2_CheckOfEachAlone goes through all operations at many A and B.
func TestP16_2_CheckOfEachAlone(t *testing.T) {
	for _, s := range []api.Schema{five(), {}, {Components: five().Components}, {Resources: five().Resources}} {
		for op := -2; op < api.Ops+2; op++ {
			for a := -2; a < 40; a++ {
				for b := -2; b < 7; b++ {
					x := ins(op, a, b)
					if words := wrong(s, x, 1); len(words) > 0 {
						wantAlone(t, s, x, words...)
					} else {
						wantAlone(t, s, x)
					}
				}
			}
			if t.Failed() {
				t.Fatal("the operation ", op)
			}
		}
	}
}

func TestP16_2_CheckOfSeveral(t *testing.T) {
	wantCheck(t, "in order", five(), list(
		ins(api.OpInput, 2, 1), ins(36, 9, 9), ins(api.OpLoad, pos, 2), ins(api.OpNop), ins(api.OpLoad, look, 9),
		ins(api.OpJump, 12, 3), ins(api.OpAdd, 1, 1), ins(api.OpSpawn, 32), ins(-1), ins(api.OpPush, 7, 7),
		ins(api.OpRemove, -1),
	), "code/0/a 1", "code/0/b 1", "code/1/op 14", "code/2/b 1", "code/4/a 1", "code/5/a 13", "code/5/b 1",
		"code/6/a 1", "code/6/b 1", "code/7/a 1", "code/8/op 14", "code/9/b 1", "code/10/a 1")
	l := slices.Repeat(list(ins(api.OpNop, 1, 1)), 64)
	var want []string
	for i := range l {
		want = append(want, fmt.Sprint("code/", i, "/a 1"), fmt.Sprint("code/", i, "/b 1"))
	}
	wantCheck(t, "as many as can be", five(), l, want...)
	var several *blame.Several
	if err := code.Check(five(), l); !errors.As(err, &several) || len(several.Errs) != len(want) {
		t.Errorf("not put together: %v", err)
	}
}

func TestP16_2_CheckOfOneThingIsNotSeveral(t *testing.T) {
	for _, l := range [][]api.Instr{
		{ins(99)}, {ins(api.OpPush, 0, 1)}, {ins(api.OpJump, 2)}, {ins(api.OpDrop)}, make([]api.Instr, 65),
	} {
		var several *blame.Several
		if err := code.Check(five(), l); err == nil || errors.As(err, &several) {
			t.Errorf("%v: %v", cut(l), err)
		}
	}
}

// TestP16_2_CheckOfStack: what Depths can't tell, at code, once.
func TestP16_2_CheckOfStack(t *testing.T) {
	full := slices.Repeat(list(ins(api.OpPush)), api.MaxStack)
	for name, l := range map[string][]api.Instr{
		"the example": {ins(api.OpPush, 3), ins(api.OpAdd)},
		"nothing":     {ins(api.OpDrop)},
		"several":     {ins(api.OpDrop), ins(api.OpAdd), ins(api.OpDrop)},
		"too much":    append(slices.Clone(full), ins(api.OpPush)),
		"unlike":      {ins(api.OpPush), ins(api.OpZero, 3), ins(api.OpPush)},
		"round":       {ins(api.OpPush), ins(api.OpJump, 0)},
	} {
		wantCheck(t, name, five(), l, "code 12")
	}
	wantCheck(t, "just full", five(), full)
	wantCheck(t, "never come to", five(), list(ins(api.OpHalt), ins(api.OpAdd)))
}

// TestP16_2_CheckOfStackOnlyIfNothingElseIsWrong: one wrong thing of each kind, wherever it stands.
func TestP16_2_CheckOfStackOnlyIfNothingElseIsWrong(t *testing.T) {
	for word, x := range map[string]api.Instr{
		"op 14": ins(36), "a 13": ins(api.OpJump, 9), "a 1": ins(api.OpHas, look), "b 1": ins(api.OpPush, 0, 1),
	} {
		wantCheck(t, "ahead", five(), list(x, ins(api.OpAdd)), "code/0/"+word)
		wantCheck(t, "behind", five(), list(ins(api.OpAdd), x), "code/1/"+word)
		wantCheck(t, "never come to", five(), list(ins(api.OpAdd), ins(api.OpHalt), x), "code/2/"+word)
	}
	long := append(slices.Repeat(list(ins(api.OpNop)), 64), ins(api.OpAdd))
	wantCheck(t, "too long", five(), long, "code 4")
	wantCheck(t, "not too long", five(), long[1:], "code 12")
}

// TestP16_2_CheckOfWhatIsNeverComeTo: all that is asked of an instruction is asked wherever it stands.
func TestP16_2_CheckOfWhatIsNeverComeTo(t *testing.T) {
	for word, x := range map[string]api.Instr{
		"op 14": ins(-1), "a 13": ins(api.OpZero, -1), "a 1": ins(api.OpLoad, hue), "b 1": ins(api.OpStore, hue, 4),
	} {
		wantCheck(t, "behind halt", five(), list(ins(api.OpHalt), x), "code/1/"+word)
		wantCheck(t, "jumped over", five(), list(ins(api.OpJump, 2), x, ins(api.OpNop)), "code/1/"+word)
	}
}

// TestP16_2_CheckTakesTheSchemaAsItIs: one that can't be is asked for what it has, and not blamed.
func TestP16_2_CheckTakesTheSchemaAsItIs(t *testing.T) {
	s := api.Schema{Components: []api.Component{
		{Name: "a", Width: 0, Rollback: true}, {Name: "a", Width: -1, Rollback: true}, {Width: math.MinInt},
		{Width: 99, Rollback: true}, {Width: math.MaxInt}, {Name: "Ä!", Width: 5, Default: [api.MaxWidth]int{1, 1, 1, 1}},
	}, Resources: []api.Resource{{Name: "a"}, {}, {}, {}, {}, {}, {}, {}, {}, {}}}
	wantCheck(t, "none", s, nil)
	for _, cell := range []int{-1, 0, 1, math.MinInt, math.MaxInt} {
		wantAlone(t, s, ins(api.OpLoad, 0, cell), "b 1")
		wantAlone(t, s, ins(api.OpLoad, 1, cell), "b 1")
		wantAlone(t, s, ins(api.OpLoad, 2, cell), "a 1")
		wantAlone(t, s, ins(api.OpStore, 2, cell), "b 1")
	}
	wantAlone(t, s, ins(api.OpLoad, 3, 98))
	wantAlone(t, s, ins(api.OpLoad, 3, 99), "b 1")
	wantAlone(t, s, ins(api.OpStore, 4, math.MaxInt-1))
	wantAlone(t, s, ins(api.OpStore, 4, math.MaxInt), "b 1")
	wantAlone(t, s, ins(api.OpStore, 5, 4))
	wantAlone(t, s, ins(api.OpSpawn, 63))
	wantAlone(t, s, ins(api.OpSpawn, 64), "a 1")
	wantAlone(t, s, ins(api.OpRes, 9))
	wantAlone(t, s, ins(api.OpRes, 10), "a 1")
	many := api.Schema{Components: slices.Repeat([]api.Component{{Width: 1, Rollback: true}}, 100)}
	for _, comp := range []int{15, 16, 31, 32, 63, 64, 99} {
		wantAlone(t, many, ins(api.OpLoad, comp))
		wantAlone(t, many, ins(api.OpInsert, comp))
		wantAlone(t, many, ins(api.OpHas, comp))
	}
	wantAlone(t, many, ins(api.OpLoad, 100), "a 1")
}

// TestP16_2_CheckDrawn holds code of wrong and right instructions against the document's words told another way.
func TestP16_2_CheckDrawn(t *testing.T) {
	r := source(16)
	stack, right := 0, 0
	for range 6000 {
		s := five()
		s.Components = s.Components[:r.Intn(comps+1)]
		s.Resources = s.Resources[:r.Intn(ress+1)]
		l := drawnList(r, r.Intn(70))
		if r.Intn(3) > 0 {
			l = drawnRight(r, 1+r.Intn(64))
			s = five()
		}
		want := wrongAll(s, l)
		if _, ok := allWays(l); len(want) == 0 && !ok {
			want = []string{"code 12"}
			stack++
		}
		if len(want) == 0 {
			right++
		}
		wantCheck(t, "drawn", s, l, want...)
		if t.Failed() {
			t.FailNow()
		}
	}
	if stack < 500 || right < 500 {
		t.Errorf("%d were wrong by their stack alone, %d right: too few to tell", stack, right)
	}
}
