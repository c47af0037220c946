package valid_test

import (
	"testing"

	"blackboard/valid"
)

// P14.1: Set and Has.

func TestSetOnAndOff(t *testing.T) {
	for _, n := range lengths {
		b := valid.New(n)
		for i := range n {
			set(t, b, i, false, false) // as it was
			set(t, b, i, true, true)
			has(t, b, i, true)
			set(t, b, i, true, false)
			set(t, b, i, true, false)
			has(t, b, i, true)
			set(t, b, i, false, true)
			has(t, b, i, false)
			set(t, b, i, false, false)
			set(t, b, i, false, false)
			has(t, b, i, false)
			set(t, b, i, true, true)
			set(t, b, i, false, true)
			only(t, b)
		}
		length(t, b, n)
	}
}

func TestSetLeavesTheOthersUnset(t *testing.T) {
	for _, n := range lengths {
		for i := range n {
			b := bits(t, n, i)
			only(t, b, i)
			set(t, b, i, true, false)
			only(t, b, i)
			set(t, b, i, false, true)
			only(t, b)
		}
	}
}

func TestSetLeavesTheOthersSet(t *testing.T) {
	for _, n := range lengths {
		b := bits(t, n, every(0, n)...)
		only(t, b, every(0, n)...)
		for i := range n {
			others := append(every(0, i), every(i+1, n)...)
			set(t, b, i, false, true)
			only(t, b, others...)
			set(t, b, i, false, false)
			only(t, b, others...)
			set(t, b, i, true, true)
			set(t, b, i, true, false)
		}
		only(t, b, every(0, n)...)
	}
}

func TestSetOfTwo(t *testing.T) {
	const n = 130
	for i := range n {
		for k := i + 1; k < n; k++ {
			b := bits(t, n, k, i)
			has(t, b, i, true)
			has(t, b, k, true)
			count(t, b, 0, n, 2)
			next(t, b, i+1, k, true)
			set(t, b, i, false, true)
			has(t, b, i, false)
			has(t, b, k, true)
			next(t, b, 0, k, true)
		}
	}
}

func TestSetOfTheEndsOfWords(t *testing.T) {
	ends := []int{0, 63, 64, 127, 128, 191, 192, 199}
	b := bits(t, 200, ends...)
	only(t, b, ends...)
	for k, i := range ends {
		set(t, b, i, false, true)
		only(t, b, ends[k+1:]...)
	}
}

func TestSetOfMost(t *testing.T) {
	for _, i := range []int{0, 1, 63, 64, 65535, 65536, 65537, most/2 - 1, most / 2, most - 65, most - 64, most - 63, most - 2, most - 1} {
		b := bits(t, most, i)
		for _, k := range []int{-1, 0, 1, 63, 64, 65, i - 64, i - 1, i, i + 1, i + 64, most - 1, most, most + i} {
			has(t, b, k, k == i)
		}
		count(t, b, 0, most, 1)
		next(t, b, 0, i, true)
		next(t, b, i+1, 0, false)
		set(t, b, i, false, true)
		count(t, b, 0, most, 0)
	}
}

// none are places that n bits don't have: beside them, in the rest of their last word, far out.
func none(n int) []int {
	return append(append(every(-70, 0), every(n, n+130)...), far...)
}

func TestSetWhereThereIsNone(t *testing.T) {
	for _, n := range lengths {
		unset, all, some := valid.New(n), bits(t, n, every(0, n)...), bits(t, n)
		for i := 0; i < n; i += 2 {
			set(t, some, i, true, true)
		}
		for _, i := range none(n) {
			for _, on := range []bool{true, false, true} {
				set(t, unset, i, on, false)
				set(t, all, i, on, false)
				set(t, some, i, on, false)
			}
		}
		only(t, unset)
		only(t, all, every(0, n)...)
		for i := range n {
			has(t, some, i, i%2 == 0)
		}
		count(t, some, least, greatest, (n+1)/2)
	}
}

func TestHasWhereThereIsNone(t *testing.T) {
	for _, n := range lengths {
		unset, all := valid.New(n), bits(t, n, every(0, n)...)
		for _, i := range none(n) {
			has(t, unset, i, false)
			has(t, all, i, false)
		}
		for i := range n {
			has(t, unset, i, false)
			has(t, all, i, true)
		}
	}
}
