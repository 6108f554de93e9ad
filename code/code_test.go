package code_test

import (
	"math"
	"slices"
	"strconv"
	"strings"
	"testing"

	"pasodoble/api"
	"pasodoble/code"
)

// chapter is the document's table: number, word, what is read, how much is taken, how much is laid.
const chapter = `
| 0 | nop |  | 0 | 0 |
| 1 | push | A | 0 | 1 |
| 2 | dup |  | 1 | 2 |
| 3 | drop |  | 1 | 0 |
| 4 | swap |  | 2 | 2 |
| 5 | over |  | 2 | 3 |
| 6 | add |  | 2 | 1 |
| 7 | sub |  | 2 | 1 |
| 8 | mul |  | 2 | 1 |
| 9 | div |  | 2 | 1 |
| 10 | mod |  | 2 | 1 |
| 11 | neg |  | 1 | 1 |
| 12 | and |  | 2 | 1 |
| 13 | or |  | 2 | 1 |
| 14 | xor |  | 2 | 1 |
| 15 | shl |  | 2 | 1 |
| 16 | shr |  | 2 | 1 |
| 17 | eq |  | 2 | 1 |
| 18 | lt |  | 2 | 1 |
| 19 | not |  | 1 | 1 |
| 20 | jump | A | 0 | 0 |
| 21 | zero | A | 1 | 0 |
| 22 | load | A, B | 0 | 1 |
| 23 | store | A, B | 1 | 0 |
| 24 | has | A | 0 | 1 |
| 25 | input | A | 0 | 1 |
| 26 | res | A | 0 | 1 |
| 27 | setres | A | 1 | 0 |
| 28 | rand |  | 1 | 1 |
| 29 | id |  | 0 | 1 |
| 30 | frame |  | 0 | 1 |
| 31 | spawn | A | 0 | 0 |
| 32 | despawn |  | 0 | 0 |
| 33 | insert | A | 0 | 0 |
| 34 | remove | A | 0 | 0 |
| 35 | halt |  | 0 | 0 |
`

// row is one of the table's.
type row struct {
	op          int
	word        string
	readsA      bool
	readsB      bool
	takes, lays int
}

// table is the chapter's.
var table = read(chapter)

// read reads a table, row by row.
func read(text string) (rows []row) {
	for _, line := range strings.Split(strings.TrimSpace(text), "\n") {
		var field []string
		for _, cell := range strings.Split(strings.Trim(line, "|"), "|") {
			field = append(field, strings.TrimSpace(cell))
		}
		rows = append(rows, row{
			number(field[0]), field[1], strings.Contains(field[2], "A"), strings.Contains(field[2], "B"),
			number(field[3]), number(field[4]),
		})
	}
	return rows
}

// number is what digits say.
func number(digits string) int {
	n, err := strconv.Atoi(digits)
	if err != nil {
		panic(err)
	}
	return n
}

// noOps are numbers that are no operation's, below and above those that are.
var noOps = []int{
	-1, -2, -35, -36, -64, api.Ops, api.Ops + 1, 63, 64, 256, 256 + api.OpPush, 1<<32 + api.OpPush,
	math.MinInt32, math.MaxInt32, math.MinInt, math.MinInt + api.OpPush, math.MaxInt,
}

// TestP16_1_TheTableIsWhole: what the other tests go by has a row for each number, in order, as package api counts.
func TestP16_1_TheTableIsWhole(t *testing.T) {
	if len(table) != api.Ops {
		t.Fatalf("%d rows, want %d", len(table), api.Ops)
	}
	for i, r := range table {
		if r.op != i || r.word == "" || r.readsB && !r.readsA {
			t.Errorf("the row %d is %+v", i, r)
		}
	}
	for op, word := range map[int]string{
		api.OpNop: "nop", api.OpPush: "push", api.OpDup: "dup", api.OpDrop: "drop", api.OpSwap: "swap",
		api.OpOver: "over", api.OpAdd: "add", api.OpSub: "sub", api.OpMul: "mul", api.OpDiv: "div",
		api.OpMod: "mod", api.OpNeg: "neg", api.OpAnd: "and", api.OpOr: "or", api.OpXor: "xor",
		api.OpShl: "shl", api.OpShr: "shr", api.OpEq: "eq", api.OpLt: "lt", api.OpNot: "not",
		api.OpJump: "jump", api.OpZero: "zero", api.OpLoad: "load", api.OpStore: "store", api.OpHas: "has",
		api.OpInput: "input", api.OpRes: "res", api.OpSetRes: "setres", api.OpRand: "rand", api.OpID: "id",
		api.OpFrame: "frame", api.OpSpawn: "spawn", api.OpDespawn: "despawn", api.OpInsert: "insert",
		api.OpRemove: "remove", api.OpHalt: "halt",
	} {
		if table[op].word != word {
			t.Errorf("%d is %q, want %q", op, table[op].word, word)
		}
	}
}

func TestP16_1_Name(t *testing.T) {
	for _, r := range table {
		if got := code.Name(r.op); got != r.word {
			t.Errorf("Name(%d): %q, want %q", r.op, got, r.word)
		}
	}
	for _, op := range noOps {
		if got := code.Name(op); got != "" {
			t.Errorf("Name(%d): %q of none", op, got)
		}
	}
}

func TestP16_1_Find(t *testing.T) {
	for _, r := range table {
		if op, ok := code.Find(r.word); op != r.op || !ok {
			t.Errorf("Find(%q): %d, %v, want %d", r.word, op, ok, r.op)
		}
	}
}

func TestP16_1_FindOfNone(t *testing.T) {
	words := []string{
		"", " ", "\x00", "\n", "x", "0", "1", "35", "ops", "jmp", "goto", "A", "push 1", "nop nop", "pushadd", "hält",
		"\xff", "\xffpush", "push\xff", "рush", strings.Repeat("push", 1<<18), strings.Repeat("x", 1<<20),
	}
	for _, r := range table {
		words = append(words,
			strings.ToUpper(r.word), strings.ToUpper(r.word[:1])+r.word[1:], r.word+" ", " "+r.word, r.word+"\x00",
			r.word+"\n", r.word+r.word, r.word+"x", "x"+r.word)
	}
	for _, r := range table {
		for i := range r.word {
			words = append(words, r.word[:i], r.word[i+1:])
		}
	}
	for _, word := range words {
		// What is left of a word, or longer than it, may be another one.
		if slices.ContainsFunc(table, func(r row) bool { return r.word == word }) {
			continue
		}
		if op, ok := code.Find(word); op != 0 || ok {
			t.Errorf("Find(%.20q): %d, %v of none", word, op, ok)
		}
	}
}

// TestP16_1_FindOfEachName: each operation has a word of its own, and is found by it again.
func TestP16_1_FindOfEachName(t *testing.T) {
	for op := -5; op < api.Ops+5; op++ {
		found, ok := code.Find(code.Name(op))
		if is := op >= 0 && op < api.Ops; ok != is || is && found != op {
			t.Errorf("Find(Name(%d)): %d, %v", op, found, ok)
		}
	}
}

func TestP16_1_Args(t *testing.T) {
	for _, r := range table {
		want := 0
		if r.readsA {
			want++
		}
		if r.readsB {
			want++
		}
		if got := code.Args(r.op); got != want {
			t.Errorf("Args of %s: %d, want %d", r.word, got, want)
		}
	}
	for _, op := range noOps {
		if got := code.Args(op); got != 0 {
			t.Errorf("Args(%d): %d of none", op, got)
		}
	}
}

func TestP16_1_Moves(t *testing.T) {
	for _, r := range table {
		if takes, lays := code.Moves(r.op); takes != r.takes || lays != r.lays {
			t.Errorf("Moves of %s: %d, %d, want %d, %d", r.word, takes, lays, r.takes, r.lays)
		}
	}
	for _, op := range noOps {
		if takes, lays := code.Moves(op); takes != 0 || lays != 0 {
			t.Errorf("Moves(%d): %d, %d of none", op, takes, lays)
		}
	}
}

func TestP16_1_Jumps(t *testing.T) {
	for _, r := range table {
		elsewhere := slices.Contains([]string{"jump", "zero"}, r.word)
		next := !slices.Contains([]string{"jump", "halt"}, r.word)
		if gotElsewhere, gotNext := code.Jumps(r.op); gotElsewhere != elsewhere || gotNext != next {
			t.Errorf("Jumps of %s: %v, %v, want %v, %v", r.word, gotElsewhere, gotNext, elsewhere, next)
		}
	}
	for _, op := range noOps {
		if elsewhere, next := code.Jumps(op); elsewhere || next {
			t.Errorf("Jumps(%d): %v, %v of none", op, elsewhere, next)
		}
	}
}

// TestP16_1_AgainTheSame: who asks, and what was asked before, changes nothing.
func TestP16_1_AgainTheSame(t *testing.T) {
	for range 3 {
		TestP16_1_Moves(t)
		TestP16_1_Find(t)
		code.Check(five(), drawnList(source(1), 64))
		code.Depths(drawnList(source(2), 64))
	}
}
