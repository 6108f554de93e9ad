// Package blame is layer 1: errors with where they are, and several at once. See shared/doc/01-blame.md.
package blame

import (
	"errors"
	"iter"
	"strings"

	"pasodoble/api"
)

// lastNumber is the greatest of the errors' numbers, unknown the number of an error that is none of them.
const (
	lastNumber = 18
	unknown    = -1
)

// Blame is an error somewhere.
type Blame struct {
	Where string
	Err   error
}

// Several is errors at once.
type Several struct {
	Errs []error
}

// Leaf is one of several errors: the way to it, and its number.
type Leaf struct {
	Path   string
	Number int
}

// Error is the same word wherever the blame is: what is wrong is asked by Number and Leaves, not read.
func (b *Blame) Error() string { return "blame" }

// Unwrap answers what is wrapped, for errors.Is and errors.As.
func (b *Blame) Unwrap() error {
	if b == nil {
		return nil
	}
	return b.Err
}

// Error is the same word whatever the errors are.
func (s *Several) Error() string { return "several" }

// Unwrap answers a copy, so that who is told the errors can't change them here.
func (s *Several) Unwrap() []error {
	if s == nil {
		return nil
	}
	return append([]error(nil), s.Errs...)
}

// At answers err with where it is; nil, if err is nil.
func At(where string, err error) error {
	if err == nil {
		return nil
	}
	return &Blame{Where: where, Err: err}
}

// All answers errs as one error, those of a Several among them in its place; nil, if there are none.
func All(errs ...error) error {
	flat := flatten(nil, errs)
	switch len(flat) {
	case 0:
		return nil
	case 1:
		return flat[0]
	}
	return &Several{Errs: flat}
}

// flatten adds errs to flat, without nils and without a Several around any.
func flatten(flat, errs []error) []error {
	for _, err := range errs {
		switch e := err.(type) {
		case nil:
		case *Several:
			if e != nil {
				flat = flatten(flat, e.Errs)
			}
		default:
			flat = append(flat, err)
		}
	}
	return flat
}

// Of answers the error of a number; nil, if it is no error's number.
func Of(number int) error {
	if number < 1 || number > lastNumber {
		return nil
	}
	named := [lastNumber]error{
		api.ErrArg, api.ErrNil, api.ErrForm, api.ErrLong, api.ErrSum, api.ErrFull,
		api.ErrNone, api.ErrState, api.ErrTwice, api.ErrName, api.ErrCycle, api.ErrStack,
		api.ErrJump, api.ErrOp, api.ErrFuel, api.ErrRange, api.ErrDead, api.ErrWord,
	}
	return named[number-1]
}

// Number answers the least number whose error err is: 0 of nil, -1 if err is none of them.
func Number(err error) int {
	if err == nil {
		return 0
	}
	for n := 1; n <= lastNumber; n++ {
		if Has(err, n) {
			return n
		}
	}
	return unknown
}

// Has answers whether err is the error of a number.
func Has(err error, number int) bool {
	target := Of(number)
	if target == nil {
		return false
	}
	for _, leaf := range parts(err) {
		if is(leaf, target) {
			return true
		}
	}
	return false
}

// Leaves answers the errors that err is made of, in order.
func Leaves(err error) []Leaf {
	var leaves []Leaf
	for trail, leaf := range parts(err) {
		leaves = append(leaves, Leaf{Path: strings.Join(trail, "/"), Number: Number(leaf)})
	}
	return leaves
}

// parts goes through the leaves of err in order, each with the Wheres on the way to it.
// The trail's room is used again for the next leaf: it is not to be kept.
func parts(err error) iter.Seq2[[]string, error] {
	return func(yield func([]string, error) bool) {
		walk(nil, err, yield)
	}
}

// walk answers whether to go on behind err.
func walk(trail []string, err error, yield func([]string, error) bool) bool {
	switch e := err.(type) {
	case nil:
		return true
	case *Blame:
		return e == nil || walk(append(trail, e.Where), e.Err, yield)
	case *Several:
		for _, inner := range e.Unwrap() {
			if !walk(trail, inner, yield) {
				return false
			}
		}
		return true
	}
	return yield(trail, err)
}

// is asks errors.Is of one leaf alone: an error from elsewhere may panic when it is asked,
// and then it is none of the named ones, and the leaves beside it are still told.
func is(leaf, target error) (yes bool) {
	defer func() {
		if recover() != nil {
			yes = false
		}
	}()
	return errors.Is(leaf, target)
}
