package code

import (
	"strconv"

	"pasodoble/api"
	"pasodoble/blame"
)

// way is where code is, as the ways to what is wrong name it.
const way = "code"

// setNumbers is how many numbers a set has room for: an A with a greater one is no set.
const setNumbers = 32

// Check answers all that is wrong with code, of a schema, each thing at the way to it; nil, if nothing is.
func Check(s api.Schema, list []api.Instr) error {
	var errs []error
	if len(list) > api.MaxCode {
		errs = append(errs, blame.At(way, api.ErrLong))
	}
	for i, x := range list {
		if !known(x.Op) {
			errs = append(errs, at(i, "op", api.ErrOp))
			continue
		}
		a, b := checkArgs(s, x, len(list))
		errs = append(errs, at(i, "a", a), at(i, "b", b))
	}
	if err := blame.All(errs...); err != nil {
		return err
	}
	// What is wrong with single instructions may be why the depths can't be told: it would be told twice.
	if _, ok := Depths(list); !ok {
		return blame.At(way, api.ErrStack)
	}
	return nil
}

// at lays the way to a part of an instruction around an error; nil stays nil.
func at(i int, part string, err error) error {
	return blame.At(way, blame.At(strconv.Itoa(i), blame.At(part, err)))
}

// checkArgs answers what is wrong with A and with B of an operation that there is.
func checkArgs(s api.Schema, x api.Instr, end int) (error, error) {
	a := checkA(s, x, end)
	if Args(x.Op) < 2 {
		return a, unless(x.B == 0, api.ErrArg)
	}
	if a != nil {
		// Whose cell B would be isn't known then.
		return a, nil
	}
	return nil, unless(below(x.B, s.Components[x.A].Width), api.ErrArg)
}

// checkA answers what is wrong with A of an operation that there is.
func checkA(s api.Schema, x api.Instr, end int) error {
	switch x.Op {
	case api.OpPush:
		return nil
	case api.OpJump, api.OpZero:
		return unless(isPlace(x.A, end), api.ErrJump)
	case api.OpInput:
		return unless(below(x.A, api.Players), api.ErrArg)
	case api.OpRes, api.OpSetRes:
		return unless(below(x.A, len(s.Resources)), api.ErrArg)
	case api.OpSpawn:
		return unless(isSet(s, x.A), api.ErrArg)
	case api.OpLoad, api.OpHas:
		// What is read is asked more of than what is written: what is only shown mustn't come into the game.
		if isShown(s, x.A) {
			return api.ErrArg
		}
		fallthrough
	case api.OpStore, api.OpInsert, api.OpRemove:
		return unless(below(x.A, len(s.Components)), api.ErrArg)
	}
	return unless(x.A == 0, api.ErrArg)
}

// unless answers nil, if what is asked holds; else an error.
func unless(holds bool, err error) error {
	if holds {
		return nil
	}
	return err
}

// isPlace answers whether one may jump to a place: the end, behind the last instruction, is one.
func isPlace(place, end int) bool { return place >= 0 && place <= end }

// isShown answers whether a number is that of a component that is only shown.
func isShown(s api.Schema, comp int) bool {
	return below(comp, len(s.Components)) && !s.Components[comp].Rollback
}

// isSet answers whether a number, bit by bit, is a set of components: nothing is left of it above their numbers.
// Of a number below 0 something always is.
func isSet(s api.Schema, n int) bool { return n>>min(len(s.Components), setNumbers) == 0 }
