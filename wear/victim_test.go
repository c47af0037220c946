package wear_test

import "testing"

// P13.1: Victim.

func TestVictimOfNoBlocks(t *testing.T) {
	for _, valid := range []ints{nil, {}} {
		for _, erases := range []ints{nil, {}} {
			for _, may := range []bools{nil, {}} {
				victim(t, valid, erases, may, 0, false)
			}
		}
	}
}

func TestVictimWhereOneListIsNone(t *testing.T) {
	for _, n := range []int{1, 2, 64} {
		for _, none := range []ints{nil, {}} {
			victim(t, none, alike(n, 0), all(n), 0, false)
			victim(t, alike(n, 0), none, all(n), 0, false)
			victim(t, none, none, all(n), 0, false)
		}
		victim(t, alike(n, 0), alike(n, 0), nil, 0, false)
		victim(t, alike(n, 0), alike(n, 0), bools{}, 0, false)
	}
}

func TestVictimWhereNoneMay(t *testing.T) {
	victim(t, ints{0}, ints{0}, only(1), 0, false)
	victim(t, ints{3, 2, 1}, ints{3, 2, 1}, only(3), 0, false)
	victim(t, ints{9, 8, least}, ints{9, 8, least}, only(3), 0, false)
}

func TestVictimOfTheOneThatMay(t *testing.T) {
	for _, n := range []int{1, 2, 3, 64, 1000} {
		for b := range n {
			victim(t, alike(n, 4), alike(n, 4), only(n, b), b, true)
			victim(t, but(alike(n, 0), b, 32), but(alike(n, 0), b, 9), only(n, b), b, true)
			victim(t, but(alike(n, least), b, greatest), but(alike(n, least), b, greatest), only(n, b), b, true)
		}
	}
}

func TestVictimOfTheLeastValid(t *testing.T) {
	const n = 9
	for b := range n {
		victim(t, but(alike(n, 7), b, 6), alike(n, 3), all(n), b, true)
		victim(t, but(alike(n, 7), b, 6), but(alike(n, 3), b, 4), all(n), b, true) // however worn it is
		victim(t, but(alike(n, 1), b, 0), but(alike(n, least), b, greatest), all(n), b, true)
	}
	victim(t, ints{5, 4, 3, 4}, ints{0, 1, 9, 2}, all(4), 2, true)
}

func TestVictimOfTheLeastWornOfAsManyValid(t *testing.T) {
	const n = 9
	for b := range n {
		for _, x := range []int{least, -1, 0, 8, greatest} {
			victim(t, alike(n, x), but(alike(n, 3), b, 2), all(n), b, true)
		}
	}
	victim(t, ints{2, 1, 1, 1}, ints{0, 5, 4, 6}, all(4), 2, true)
	victim(t, ints{1, 2, 1, 0, 0}, ints{0, 0, 0, 9, 8}, all(5), 4, true)
	victim(t, ints{1, 2, 1, 0, 0}, ints{0, 0, 0, 8, 9}, all(5), 3, true)
}

func TestVictimOfTwoAlike(t *testing.T) {
	const n = 9
	for a := range n {
		for b := a + 1; b < n; b++ {
			victim(t, but(but(alike(n, 5), a, 4), b, 4), alike(n, 2), all(n), a, true)
			victim(t, alike(n, 5), but(but(alike(n, 3), a, 2), b, 2), all(n), a, true)
			victim(t, but(but(alike(n, 5), a, 4), b, 4), but(alike(n, 2), b, 1), all(n), b, true)
			victim(t, alike(n, 5), alike(n, 2), only(n, a, b), a, true)
		}
	}
}

func TestVictimOfAllAlike(t *testing.T) {
	for _, n := range []int{1, 2, 3, 64, 1000} {
		for _, x := range []int{least, -1, 0, 1, greatest} {
			victim(t, alike(n, x), alike(n, x), all(n), 0, true)
		}
	}
}

func TestVictimPassesByWhatMayNot(t *testing.T) {
	victim(t, ints{3, 0, 2}, ints{1, 0, 1}, bools{true, false, true}, 2, true)
	victim(t, ints{2, 2, 2}, ints{1, 0, 1}, bools{true, false, true}, 0, true)
	victim(t, ints{2, 2, 2, 2}, ints{0, 0, 1, 1}, only(4, 2, 3), 2, true)
	victim(t, ints{least, 7, least}, ints{least, 7, least}, only(3, 1), 1, true)
}

func TestVictimOfUnlikeLists(t *testing.T) {
	victim(t, ints{3, 2}, ints{0, 0, 0, 0}, all(4), 1, true) // fewer valid
	victim(t, ints{3}, ints{9, 0, 0, 0}, all(4), 0, true)
	victim(t, ints{3, 2}, ints{0, 0, 0, 0}, only(4, 2, 3), 0, false)
	victim(t, ints{3, 2, 1, 0}, ints{5, 5}, all(4), 1, true) // fewer erases
	victim(t, ints{3, 2, 1, least}, ints{5}, all(4), 0, true)
	victim(t, ints{3, 2, 1, 0}, ints{5, 5}, only(4, 2, 3), 0, false)
	victim(t, ints{3, 2, 1, 0}, ints{5, 5, 5, 5}, all(2), 1, true) // fewer that may
	victim(t, ints{3, 2, 1, 0}, ints{5, 5, 5, 5}, only(3, 0), 0, true)
	victim(t, ints{3, 2, 1, 0}, ints{5, 5, 5, 5}, only(2), 0, false)
	victim(t, ints{3, 2, 1}, ints{1, 1}, all(4), 1, true) // all three unlike
	victim(t, ints{3, 2}, ints{1, 1, 0}, all(1), 0, true)
	victim(t, ints{9}, ints{9, 8}, only(3, 1, 2), 0, false)
}

func TestVictimOfAnyNumbers(t *testing.T) {
	victim(t, ints{0, -1}, ints{0, 0}, all(2), 1, true)
	victim(t, ints{greatest, least}, ints{0, 0}, all(2), 1, true)
	victim(t, ints{least, greatest}, ints{0, 0}, all(2), 0, true)
	victim(t, ints{-2, greatest}, ints{5, 0}, all(2), 0, true) // their difference is beyond an int
	victim(t, ints{greatest, -2}, ints{0, 5}, all(2), 1, true)
	victim(t, ints{4, 4}, ints{-2, greatest}, all(2), 0, true)
	victim(t, ints{4, 4}, ints{greatest, -2}, all(2), 1, true)
	victim(t, ints{4, 4}, ints{2, least}, all(2), 1, true)
	victim(t, ints{4, 4, 4}, ints{0, -1, -1}, all(3), 1, true)
	victim(t, ints{1 << 32, 1}, ints{0, 1 << 33}, all(2), 1, true)
	victim(t, ints{1, 2}, ints{greatest, least}, all(2), 0, true) // what they are together is of no matter
	victim(t, ints{2, 1}, ints{0, 2}, all(2), 1, true)
}
