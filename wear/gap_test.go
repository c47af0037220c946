package wear_test

import "testing"

// P13.1: Gap.

func TestGapOfNone(t *testing.T) {
	for _, erases := range []ints{nil, {}} {
		gap(t, erases, nil, 0)
		gap(t, erases, bools{}, 0)
		gap(t, erases, all(3), 0)
	}
	gap(t, ints{3, 1, 5}, nil, 0)
	gap(t, ints{3, 1, 5}, bools{}, 0)
	gap(t, ints{3, 1, 5}, only(3), 0)
	gap(t, ints{least, 0, greatest}, only(3), 0)
}

func TestGapOfOne(t *testing.T) {
	const n = 9
	for b := range n {
		for _, x := range []int{least, -7, 0, 7, greatest} {
			gap(t, alike(n, x), only(n, b), 0)
			gap(t, but(alike(n, 2), b, x), only(n, b), 0)
		}
	}
	gap(t, ints{5}, all(1), 0)
}

func TestGapOfTwo(t *testing.T) {
	const n = 9
	for a := range n {
		for b := range n {
			if a != b { // the one with less stands ahead of the other, and behind it
				gap(t, but(but(alike(n, 0), a, 3), b, 8), only(n, a, b), 5)
				gap(t, but(but(alike(n, 99), a, 3), b, 8), only(n, a, b), 5)
				gap(t, but(but(alike(n, 4), a, -3), b, 8), only(n, a, b), 11)
			}
		}
	}
	gap(t, ints{7, 8}, all(2), 1)
	gap(t, ints{8, 7}, all(2), 1)
}

func TestGapOfMore(t *testing.T) {
	gap(t, ints{3, 1, 1}, all(3), 2)
	gap(t, ints{1, 5, 3}, all(3), 4)
	gap(t, ints{5, 1, 9, 2, 9, 1}, all(6), 8)
	gap(t, ints{4, 9, 0, 2}, all(4), 9)
	gap(t, ints{4, 9, 0, 2}, only(4, 0, 1, 3), 7)
	gap(t, ints{4, 9, 0, 2}, only(4, 0, 2, 3), 4)
}

func TestGapPassesByWhatMayNot(t *testing.T) {
	const n = 9
	may := only(n, 2, 4, 6)
	for _, b := range []int{0, 1, 3, 5, 7, 8} {
		l := but(but(but(alike(n, 20), 2, 21), 4, 25), 6, 23)
		gap(t, but(l, b, 0), may, 4)
		gap(t, but(l, b, 99), may, 4)
		gap(t, but(l, b, least), may, 4)
		gap(t, but(l, b, greatest), may, 4)
	}
}

func TestGapOfAllAlike(t *testing.T) {
	for _, n := range []int{1, 2, 3, 64, 1000} {
		for _, x := range []int{least, -1, 0, 1, greatest} {
			gap(t, alike(n, x), all(n), 0)
		}
	}
}

func TestGapOfUnlikeLists(t *testing.T) {
	gap(t, ints{3, 5}, all(4), 2)
	gap(t, ints{3}, all(4), 0)
	gap(t, ints{3, 5}, only(4, 1, 2, 3), 0)
	gap(t, ints{3, 5}, only(4, 2, 3), 0)
	gap(t, ints{3, 5, 0, 9}, all(2), 2)
	gap(t, ints{3, 5, 0, 9}, all(3), 5)
	gap(t, ints{3, 5, 0, 9}, all(1), 0)
	gap(t, ints{3, 5, 0, 9}, only(2), 0)
}

func TestGapOfAnyNumbersOfErases(t *testing.T) {
	gap(t, ints{-3, -1}, all(2), 2)
	gap(t, ints{-3, 4}, all(2), 7)
	gap(t, ints{0, greatest}, all(2), greatest)
	gap(t, ints{-1, least}, all(2), greatest)
	gap(t, ints{greatest, greatest - 1}, all(2), 1)
	gap(t, ints{least, least + 1}, all(2), 1)
	gap(t, ints{1 << 32, 0}, all(2), 1<<32)
}

// What is beyond an int is what int makes of it: there is no error to answer.
func TestGapBeyondAnInt(t *testing.T) {
	gap(t, ints{least, greatest}, all(2), -1)
	gap(t, ints{greatest, 5, least}, all(3), -1)
	gap(t, ints{1, least}, all(2), least+1)
}
