package code_test

import (
	"math/rand"
	"slices"

	"pasodoble/api"
)

// source is chance that is the same each time.
func source(seed int64) *rand.Rand { return rand.New(rand.NewSource(seed)) }

// standing is somewhere in code with so much on the stack.
type standing struct{ place, depth int }

// allWays is what the chapter says of depths, told another way: all standings that one may come to are found, by
// each step from each of them, and looked at only then.
func allWays(l []api.Instr) ([]int, bool) {
	for _, x := range l {
		if x.Op < 0 || x.Op >= len(table) {
			return nil, false
		}
		if word := table[x.Op].word; (word == "jump" || word == "zero") && (x.A < 0 || x.A > len(l)) {
			return nil, false
		}
	}
	met := []standing{{0, 0}}
	for i := 0; i < len(met); i++ {
		if met[i].place == len(l) {
			continue
		}
		x := l[met[i].place]
		r := table[x.Op]
		depth := met[i].depth
		if depth < r.takes || depth-r.takes+r.lays > 16 {
			return nil, false
		}
		depth += r.lays - r.takes
		for _, place := range behind(r.word, met[i].place, x.A) {
			if s := (standing{place, depth}); !slices.Contains(met, s) {
				met = append(met, s)
			}
		}
	}
	depths := slices.Repeat([]int{-1}, len(l)+1)
	for _, s := range met {
		if depths[s.place] != -1 {
			return nil, false
		}
		depths[s.place] = s.depth
	}
	return depths, true
}

// behind are the places that follow an instruction.
func behind(word string, place, a int) []int {
	switch word {
	case "jump":
		return []int{a}
	case "zero":
		return []int{a, place + 1}
	case "halt":
		return nil
	}
	return []int{place + 1}
}

// drawnList is so many instructions, many of which can't be.
func drawnList(r *rand.Rand, many int) (l []api.Instr) {
	for range many {
		x := ins(r.Intn(api.Ops))
		if table[x.Op].readsA || r.Intn(20) == 0 {
			x.A = r.Intn(6)
		}
		if table[x.Op].readsB || r.Intn(20) == 0 {
			x.B = r.Intn(4)
		}
		switch r.Intn(30) {
		case 0:
			x.Op = noOps[r.Intn(len(noOps))]
		case 1:
			x.A = ends[r.Intn(len(ends))]
		case 2:
			x.B = ends[r.Intn(len(ends))]
		case 3:
			x.A = r.Intn(many+4) - 2
		}
		l = append(l, x)
	}
	return l
}

// drawnRight is so many instructions with which nothing is wrong in five, each alone, and mostly with what they take
// on the stack too, as long as one goes on from place to place. Then some are turned into jumps, mostly to places
// with the same depth.
func drawnRight(r *rand.Rand, many int) (l []api.Instr) {
	depths := []int{0}
	for len(l) < many {
		depth := depths[len(l)]
		x := drawnInstr(r, many)
		row := table[x.Op]
		if fits := depth >= row.takes && depth-row.takes+row.lays <= 16; !fits && r.Intn(60) > 0 {
			continue
		}
		l = append(l, x)
		depths = append(depths, min(max(depth-row.takes+row.lays, 0), 16))
	}
	for range r.Intn(5) {
		turn(r, l, depths)
	}
	return l
}

// turn makes a jump of a nop, or a zero of a drop, if it stands somewhere.
func turn(r *rand.Rand, l []api.Instr, depths []int) {
	for i, x := range l {
		if x.Op != api.OpNop && x.Op != api.OpDrop || r.Intn(3) > 0 {
			continue
		}
		place := r.Intn(len(depths))
		for tries := 0; depths[place] != depths[i+1] && tries < 100; tries++ {
			place = r.Intn(len(depths))
		}
		l[i] = ins(api.OpJump, place)
		if x.Op == api.OpDrop {
			l[i] = ins(api.OpZero, place)
		}
		return
	}
}

// drawnInstr is an instruction with which nothing is wrong in five, in code of so many.
func drawnInstr(r *rand.Rand, many int) api.Instr {
	rolled := []int{pos, hp, vel}
	x := ins(r.Intn(api.Ops))
	switch x.Op {
	case api.OpPush:
		x.A = r.Intn(3)
	case api.OpJump, api.OpZero, api.OpHalt:
		// These come from turn, or else most of the code would never be come to.
		if r.Intn(40) > 0 {
			return ins(api.OpNop)
		}
		if x.Op != api.OpHalt {
			x.A = r.Intn(many + 1)
		}
	case api.OpLoad, api.OpHas:
		x.A = rolled[r.Intn(len(rolled))]
	case api.OpStore, api.OpInsert, api.OpRemove:
		x.A = r.Intn(comps)
	case api.OpInput, api.OpRes, api.OpSetRes:
		x.A = r.Intn(2)
	case api.OpSpawn:
		x.A = r.Intn(1 << comps)
	}
	if x.Op == api.OpLoad || x.Op == api.OpStore {
		x.B = r.Intn(five().Components[x.A].Width)
	}
	return x
}
