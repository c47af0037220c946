package yard_test

import (
	"slices"
	"testing"

	"blackboard/yard"
)

// P16.1: Count and List.

func TestListOfEachState(t *testing.T) {
	y, w := yard.New(10), modelOf(10)
	for b, to := range []int{4, 3, 2, 1, 1, 2, 3, 4, 3, 1} {
		bring(t, y, w, b, to)
	}
	list(t, y, yard.Free, 3, 4, 9)
	list(t, y, yard.Open, 2, 5)
	list(t, y, yard.Full, 1, 6, 8)
	list(t, y, yard.Bad, 0, 7)
}

func TestListOfAllAlike(t *testing.T) {
	for _, blocks := range []int{1, 2, 63, 64} {
		for _, to := range states {
			y, w := yard.New(blocks), modelOf(blocks)
			for b := range blocks {
				bring(t, y, w, b, to)
			}
			for _, s := range states {
				if s == to {
					list(t, y, s, every(0, blocks)...)
				} else {
					list(t, y, s)
				}
			}
		}
	}
}

func TestListOfNoState(t *testing.T) {
	for _, blocks := range []int{0, 1, 6, 64} {
		y, w := yard.New(blocks), modelOf(blocks)
		for b := range blocks {
			bring(t, y, w, b, states[b%4])
		}
		for _, s := range none {
			list(t, y, s)
		}
	}
}

// By number, not by when they became it, nor by how often they were wiped.
func TestListGoesByNumber(t *testing.T) {
	const blocks = 8
	for _, to := range states[1:] {
		y, w := yard.New(blocks), modelOf(blocks)
		var are []int
		for _, b := range []int{6, 1, 7, 0, 4, 2, 5, 3} {
			wipe(y, w, b, 9-b)
			bring(t, y, w, b, to)
			are = append(are, b)
			slices.Sort(are)
			list(t, y, to, are...)
			list(t, y, yard.Free, w.list(yard.Free)...)
		}
	}
	y, w := yard.New(blocks), modelOf(blocks)
	for b := range blocks {
		bring(t, y, w, b, yard.Full)
	}
	for _, b := range []int{5, 0, 7, 3} { // and back
		turn(t, y, b, yard.Free, true)
		w.turn(b, yard.Free)
		holds(t, y, w)
	}
	list(t, y, yard.Free, 0, 3, 5, 7)
	list(t, y, yard.Full, 1, 2, 4, 6)
}

func TestEachBlockStandsInOneList(t *testing.T) {
	d := &dice{seed: 8}
	y := yard.New(most)
	for range 500 {
		y.Turn(d.below(most), anyState(d))
		var all []int
		count := 0
		for _, s := range states {
			l := y.List(s)
			for _, b := range l {
				state(t, y, b, s)
			}
			all = append(all, l...)
			count += y.Count(s)
		}
		slices.Sort(all)
		if !slices.Equal(all, every(0, most)) || count != most {
			t.Fatalf("all lists together are %v, all counts %d", all, count)
		}
	}
}

// R4: a list that was answered is the asker's own, spare room too.
func TestListsAreNew(t *testing.T) {
	y, w := yard.New(9), modelOf(9)
	for b := range 9 {
		bring(t, y, w, b, states[b%4])
		wipe(y, w, b, b)
	}
	for _, s := range states {
		l, again := y.List(s), y.List(s)
		kept := slices.Clone(again)
		spoil(l)
		if !slices.Equal(again, kept) {
			t.Errorf("a list of %d was %v, and is %v behind what was done to another", s, kept, again)
		}
		holds(t, y, w)
		for _, other := range states {
			spoil(y.List(other))
		}
		if !slices.Equal(again, kept) {
			t.Errorf("a list of %d was %v, and is %v behind what was done to the others", s, kept, again)
		}
		holds(t, y, w)
	}
}

// spoil puts what is no block all over l and its spare room.
func spoil(l []int) {
	for i := range l[:cap(l)] {
		l[:cap(l)][i] = -7
	}
}

// A list that was answered stays as it was, whatever becomes of the blocks.
func TestListsStay(t *testing.T) {
	y := yard.New(6)
	l := y.List(yard.Free)
	for b := range 6 {
		turn(t, y, b, yard.Open, true)
	}
	if !slices.Equal(l, every(0, 6)) {
		t.Errorf("the list became %v", l)
	}
}
