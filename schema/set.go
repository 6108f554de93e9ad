package schema

import (
	"math/bits"

	"pasodoble/api"
)

// setNumbers is how many numbers a set has room for: those from 0 on, below it.
const setNumbers = 32

// Of answers the set of numbers; those that aren't a set's are left out.
func Of(numbers ...int) api.Mask {
	var m api.Mask
	for _, number := range numbers {
		m = With(m, number)
	}
	return m
}

// List answers the numbers of a set, rising.
func List(m api.Mask) []int {
	var list []int
	for number := range setNumbers {
		if Has(m, number) {
			list = append(list, number)
		}
	}
	return list
}

// Has answers whether a number is in a set.
func Has(m api.Mask, number int) bool { return m&bit(number) != 0 }

// Count answers how many numbers are in a set.
func Count(m api.Mask) int { return bits.OnesCount32(uint32(m)) }

// Within answers whether all of a set are in another one.
func Within(m, all api.Mask) bool { return m&^all == 0 }

// With answers a set with a number more.
func With(m api.Mask, number int) api.Mask { return m | bit(number) }

// Without answers a set with a number less.
func Without(m api.Mask, number int) api.Mask { return m &^ bit(number) }

// bit answers the set of one number: of one that isn't a set's it is the empty set, which is in no set, and
// neither adds to one nor takes from it.
func bit(number int) api.Mask {
	if number < 0 || number >= setNumbers {
		return 0
	}
	return 1 << number
}
