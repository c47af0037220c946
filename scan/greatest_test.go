package scan_test

import (
	"slices"
	"testing"

	"blackboard/scan"
)

// P18.1: Greatest.

// greatestOf tells what Greatest answers of pages with these numbers, and that it leaves alone what it was given.
func greatestOf(t *testing.T, want int, seqs ...int) {
	t.Helper()
	var l []scan.Found
	for i, n := range seqs {
		l = append(l, at(1000-i, n, 5000+i)) // other numbers, greater ones and falling ones, stand beside them
	}
	before := slices.Clone(whole(l))
	for range 2 {
		if got := scan.Greatest(l); got != want {
			t.Errorf("Greatest of %v = %d, want %d", seqs, got, want)
		}
	}
	if !slices.Equal(whole(l), before) {
		t.Errorf("Greatest changed %v to %v", before, whole(l))
	}
}

func TestGreatestOfNothing(t *testing.T) {
	for _, l := range [][]scan.Found{nil, {}, {at(1, 2, 3)}, make([]scan.Found, 3)} {
		if got := scan.Greatest(l[:0]); got != -1 {
			t.Errorf("Greatest of none = %d, want -1", got)
		}
	}
}

func TestGreatestOfOne(t *testing.T) {
	for _, n := range ends {
		greatestOf(t, n, n)
	}
}

func TestGreatestOfTwo(t *testing.T) {
	for _, a := range ends {
		for _, b := range ends {
			greatestOf(t, max(a, b), a, b)
		}
	}
}

// The greatest is found wherever it stands, and however often.
func TestGreatestOfMany(t *testing.T) {
	for _, n := range []int{8, 1 << 40, greatest} {
		for at := range 6 {
			l := []int{7, -1, 0, 5, least, 7}
			l[at] = n
			greatestOf(t, n, l...)
			l[5-at] = n
			greatestOf(t, n, l...)
		}
	}
	d := &dice{19}
	for range 200 {
		l := make([]int, 1+d.below(50))
		for i := range l {
			l[i] = d.below(1000) - 500
		}
		greatestOf(t, slices.Max(l), l...)
	}
}

// Below -1, it is no less what was found: -1 is of none.
func TestGreatestBelowNought(t *testing.T) {
	greatestOf(t, -2, -2)
	greatestOf(t, -2, -3, -2, -9)
	greatestOf(t, -1, -3, -1, -9)
	greatestOf(t, least, least, least)
	greatestOf(t, least+1, least, least+1)
}
