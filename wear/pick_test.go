package wear_test

import (
	"slices"
	"testing"
)

// P13.1: Pick.

func TestPickOfTheExample(t *testing.T) {
	pick(t, ints{3, 1, 1}, all(3), 1, true)
}

func TestPickOfNoBlocks(t *testing.T) {
	for _, erases := range []ints{nil, {}} {
		for _, may := range []bools{nil, {}} {
			pick(t, erases, may, 0, false)
		}
	}
}

func TestPickWhereOneListIsNone(t *testing.T) {
	for _, n := range []int{1, 2, 64} {
		pick(t, nil, all(n), 0, false)
		pick(t, ints{}, all(n), 0, false)
		pick(t, alike(n, 0), nil, 0, false)
		pick(t, alike(n, 0), bools{}, 0, false)
	}
}

func TestPickWhereNoneMay(t *testing.T) {
	pick(t, ints{0}, only(1), 0, false)
	pick(t, ints{3, 1, 1}, only(3), 0, false)
	pick(t, ints{9, 8, 7, least}, only(4), 0, false)
	pick(t, alike(64, greatest), only(64), 0, false)
}

func TestPickOfTheOneThatMay(t *testing.T) {
	for _, n := range []int{1, 2, 3, 64, 65, 1000} {
		for b := range n {
			for _, x := range []int{least, -1, 0, 1, greatest} {
				pick(t, alike(n, x), only(n, b), b, true)
			}
			pick(t, but(alike(n, 0), b, 1), only(n, b), b, true)
			pick(t, but(alike(n, least), b, greatest), only(n, b), b, true)
		}
	}
}

func TestPickOfTheLeastWorn(t *testing.T) {
	for n := 2; n <= 64; n++ {
		for b := range n {
			pick(t, but(alike(n, 5), b, 4), all(n), b, true)
			pick(t, but(alike(n, 1), b, 0), all(n), b, true)
		}
	}
	pick(t, ints{4, 3, 2, 1, 2, 3}, all(6), 3, true)
	pick(t, ints{6, 5, 4, 3, 2, 1}, all(6), 5, true)
	pick(t, ints{1, 2, 3, 4, 5, 6}, all(6), 0, true)
}

func TestPickOfTwoAlike(t *testing.T) {
	const n = 9
	for a := range n {
		for b := a + 1; b < n; b++ {
			for _, x := range []int{least, -1, 0, 7, greatest - 1} {
				pick(t, but(but(alike(n, x+1), a, x), b, x), all(n), a, true)
				pick(t, alike(n, x), only(n, a, b), a, true)
				pick(t, but(but(alike(n, least), a, x), b, x), only(n, b, a), a, true)
			}
		}
	}
}

func TestPickOfAllAlike(t *testing.T) {
	for _, n := range []int{1, 2, 3, 64, 1000} {
		for _, x := range []int{least, -1, 0, 1, greatest} {
			pick(t, alike(n, x), all(n), 0, true)
		}
	}
}

func TestPickPassesByWhatMayNot(t *testing.T) {
	pick(t, ints{3, 0, 2}, bools{true, false, true}, 2, true)
	pick(t, ints{0, 3, 2}, bools{false, true, true}, 2, true)
	pick(t, ints{2, 3, 0}, bools{true, true, false}, 0, true)
	pick(t, ints{1, 1, 1, 1}, bools{false, false, true, true}, 2, true)
	pick(t, ints{least, greatest, least}, bools{false, true, false}, 1, true)
	const n = 8
	for b := range n { // the least worn of all may not: the first of the others is taken
		pick(t, but(alike(n, 6), b, 5), slices.Replace(all(n), b, b+1, false), first(b), true)
	}
}

// first is the least number that is not b.
func first(b int) int {
	if b == 0 {
		return 1
	}
	return 0
}

func TestPickOfFewerErases(t *testing.T) {
	pick(t, ints{3}, all(4), 0, true)
	pick(t, ints{3, 2}, all(4), 1, true)
	pick(t, ints{3, 2}, only(4, 0, 2, 3), 0, true)
	pick(t, ints{3, 2}, only(4, 2, 3), 0, false)
	pick(t, ints{least}, only(2, 1), 0, false)
	pick(t, alike(63, 4), only(64, 63), 0, false)
}

func TestPickOfFewerThatMay(t *testing.T) {
	pick(t, ints{3, 2, 1, 0}, all(1), 0, true)
	pick(t, ints{3, 2, 1, 0}, all(2), 1, true)
	pick(t, ints{3, 2, 1, least}, all(3), 2, true)
	pick(t, ints{3, 4, 1, 0}, only(2, 1), 1, true)
	pick(t, ints{3, 4, 1, 0}, only(2), 0, false)
	pick(t, ints{greatest, 0}, all(1), 0, true)
}

func TestPickOfAnyNumbersOfErases(t *testing.T) {
	pick(t, ints{0, -1}, all(2), 1, true)
	pick(t, ints{-1, -2, 0, -2}, all(4), 1, true)
	pick(t, ints{1, 0, -1}, all(3), 2, true)
	pick(t, ints{greatest, least}, all(2), 1, true)
	pick(t, ints{least, greatest}, all(2), 0, true)
	pick(t, ints{greatest, greatest - 1}, all(2), 1, true)
	pick(t, ints{least + 1, least}, all(2), 1, true)
	pick(t, ints{-2, greatest}, all(2), 0, true) // their difference is beyond an int
	pick(t, ints{greatest, -2}, all(2), 1, true)
	pick(t, ints{2, least}, all(2), 1, true)
	pick(t, ints{least, 2}, all(2), 0, true)
	pick(t, ints{1 << 32, 1}, all(2), 1, true)
	pick(t, ints{1<<32 + 1, 1 << 33, 2}, all(3), 2, true)
}
