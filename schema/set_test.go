package schema_test

import (
	"math"
	"math/rand"
	"slices"
	"testing"

	"pasodoble/api"
	"pasodoble/schema"
)

const full = api.Mask(1<<32 - 1)

// outside are some numbers that aren't a set's.
var outside = []int{
	math.MinInt, math.MinInt + 1, math.MinInt + 31, -1 << 32, -33, -32, -31, -1,
	32, 33, 63, 64, 95, 255, 256, 1 << 32, 1<<32 + 1, math.MaxInt - 31, math.MaxInt,
}

// powers are the sets of one number each, the first one's number 0.
func powers() []api.Mask {
	list := []api.Mask{1}
	for len(list) < 32 {
		list = append(list, list[len(list)-1]*2)
	}
	return list
}

// numbersOf are the numbers of a set, rising, found by halving it.
func numbersOf(m api.Mask) []int {
	var list []int
	for n := 0; m > 0; n++ {
		if m%2 == 1 {
			list = append(list, n)
		}
		m /= 2
	}
	return list
}

// sets are those of none, of all, of one, of all but one, and some drawn ones.
func sets() []api.Mask {
	list := []api.Mask{0, full, 1<<31 | 9, 0x55555555, 0xaaaaaaaa, 0xffff, 0xffff0000}
	for _, one := range powers() {
		list = append(list, one, full-one)
	}
	r := rand.New(rand.NewSource(7))
	for range 100 {
		list = append(list, api.Mask(r.Uint32()))
	}
	return list
}

func TestP5_3_Of(t *testing.T) {
	cases := []struct {
		numbers []int
		want    api.Mask
	}{
		{nil, 0}, {[]int{}, 0}, {[]int{0}, 1}, {[]int{31}, 1 << 31}, {[]int{0, 31}, 1<<31 + 1},
		{[]int{3, 0, 31, 3, 32, -1}, 1<<31 | 9}, {[]int{5, 5, 5}, 32}, {[]int{2, 1, 0}, 7}, {[]int{0, 1, 2}, 7},
		{[]int{32}, 0}, {[]int{-1}, 0}, {outside, 0}, {slices.Concat(outside, []int{4}, outside), 16},
	}
	for _, c := range cases {
		if m := schema.Of(c.numbers...); m != c.want {
			t.Errorf("Of %v: %b, want %b", c.numbers, m, c.want)
		}
	}
	if schema.Of() != 0 {
		t.Error("Of none")
	}
	for n, one := range powers() {
		if m := schema.Of(n); m != one {
			t.Errorf("Of %d: %b", n, m)
		}
	}
	numbers := []int{3, 1, 2}
	schema.Of(numbers[:2]...)
	if !slices.Equal(numbers, []int{3, 1, 2}) {
		t.Error("the list was changed:", numbers)
	}
}

func TestP5_3_ListAndCount(t *testing.T) {
	for _, m := range sets() {
		want := numbersOf(m)
		if got := schema.List(m); !slices.Equal(got, want) {
			t.Errorf("List %b: %v, want %v", m, got, want)
		}
		if n := schema.Count(m); n != len(want) {
			t.Errorf("Count %b: %d, want %d", m, n, len(want))
		}
		if back := schema.Of(schema.List(m)...); back != m {
			t.Errorf("Of List %b: %b", m, back)
		}
	}
	told := schema.List(7)
	told[0] = 9
	if !slices.Equal(schema.List(7), []int{0, 1, 2}) {
		t.Error("List told no new memory")
	}
}

func TestP5_3_HasWithAndWithout(t *testing.T) {
	for _, m := range sets() {
		in := numbersOf(m)
		for n, one := range powers() {
			has, more, less := slices.Contains(in, n), m+one, m
			if has {
				more, less = m, m-one
			}
			if got := schema.Has(m, n); got != has {
				t.Errorf("Has %b, %d: %v", m, n, got)
			}
			if got := schema.With(m, n); got != more {
				t.Errorf("With %b, %d: %b, want %b", m, n, got, more)
			}
			if got := schema.Without(m, n); got != less {
				t.Errorf("Without %b, %d: %b, want %b", m, n, got, less)
			}
		}
		for _, n := range outside {
			if schema.Has(m, n) {
				t.Errorf("Has %b, %d", m, n)
			}
			if got := schema.With(m, n); got != m {
				t.Errorf("With %b, %d: %b", m, n, got)
			}
			if got := schema.Without(m, n); got != m {
				t.Errorf("Without %b, %d: %b", m, n, got)
			}
		}
	}
}

func TestP5_3_Within(t *testing.T) {
	for _, m := range sets() {
		for _, all := range sets() {
			want := true
			for _, n := range numbersOf(m) {
				want = want && slices.Contains(numbersOf(all), n)
			}
			if got := schema.Within(m, all); got != want {
				t.Errorf("Within %b, %b: %v", m, all, got)
			}
		}
	}
	if !schema.Within(0, 0) || !schema.Within(0, full) || !schema.Within(full, full) || schema.Within(full, 0) || schema.Within(1<<31, 1<<31-1) {
		t.Error("Within of none and of all")
	}
}
