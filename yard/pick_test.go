package yard_test

import (
	"testing"

	"blackboard/yard"
)

// P16.1: Pick.

// worn is a yard and its model, with blocks that were wiped so often.
func worn(times ...int) (*yard.Yard, model) {
	y, w := yard.New(len(times)), modelOf(len(times))
	for b, n := range times {
		wipe(y, w, b, n)
	}
	return y, w
}

func TestPickOfTheLeastWorn(t *testing.T) {
	y, _ := worn(3, 2, 1, 2)
	pick(t, y, 2, true)
	y, _ = worn(3, 2, 2, 1)
	pick(t, y, 3, true)
	y, _ = worn(0, 2, 2, 1)
	pick(t, y, 0, true)
	for _, blocks := range []int{1, 2, 9, most} {
		for b := range blocks {
			y, w := yard.New(blocks), modelOf(blocks)
			for other := range blocks {
				if other != b {
					wipe(y, w, other, 1+other%3)
				}
			}
			pick(t, y, b, true)
		}
	}
}

func TestPickOfSomeAlike(t *testing.T) {
	y, _ := worn(3, 1, 1)
	pick(t, y, 1, true)
	y, _ = worn(5, 2, 3, 2, 2)
	pick(t, y, 1, true)
	y, _ = worn(4, 4, 4)
	pick(t, y, 0, true)
	const blocks = 9
	for a := range blocks {
		for b := a + 1; b < blocks; b++ {
			y, w := yard.New(blocks), modelOf(blocks)
			for other := range blocks {
				if other != a && other != b {
					wipe(y, w, other, 2)
				}
			}
			pick(t, y, a, true)
			wipe(y, w, a, 1)
			pick(t, y, b, true)
			wipe(y, w, b, 1)
			pick(t, y, a, true)
		}
	}
}

func TestPickOfNoneFree(t *testing.T) {
	pick(t, yard.New(0), 0, false)
	for _, blocks := range []int{1, 3, most} {
		y, w := yard.New(blocks), modelOf(blocks)
		for b := range blocks {
			wipe(y, w, b, 1)
			bring(t, y, w, b, states[1+b%3])
		}
		pick(t, y, 0, false)
		holds(t, y, w)
	}
}

// Blocks that are Open, Full and Bad are passed by, however little worn they are.
func TestPickPassesByWhatIsNotFree(t *testing.T) {
	for _, s := range states[1:] {
		for b := range 4 {
			y, w := worn(3, 3, 3, 3)
			for other := range 4 {
				if other != b {
					bring(t, y, w, other, s)
				}
			}
			wipe(y, w, b, 5)
			pick(t, y, b, true)
			bring(t, y, w, b, s)
			pick(t, y, 0, false)
		}
	}
	y, w := worn(0, 1, 2, 7, 5, 6)
	bring(t, y, w, 0, yard.Open)
	bring(t, y, w, 1, yard.Full)
	bring(t, y, w, 2, yard.Bad)
	pick(t, y, 4, true)
	holds(t, y, w)
}

// One that is taken is picked no more, till it is Free again; by then it is more worn.
func TestPickGoesOn(t *testing.T) {
	y, w := yard.New(4), modelOf(4)
	for round := range 3 {
		for b := range 4 {
			pick(t, y, b, true)
			bring(t, y, w, b, yard.Full)
		}
		pick(t, y, 0, false)
		for _, b := range []int{2, 0, 3, 1} {
			wipe(y, w, b, 1)
			turn(t, y, b, yard.Free, true)
			w.turn(b, yard.Free)
			erases(t, y, b, round+1)
		}
		holds(t, y, w)
	}
}

// Pick takes nothing: what it picks is Free still.
func TestPickTakesNothing(t *testing.T) {
	y, w := worn(2, 1, 1)
	for range 5 {
		pick(t, y, 1, true)
		state(t, y, 1, yard.Free)
	}
	holds(t, y, w)
	turn(t, y, 1, yard.Open, true)
	pick(t, y, 2, true)
	turn(t, y, 1, yard.Full, true)
	pick(t, y, 2, true)
	turn(t, y, 1, yard.Free, true)
	pick(t, y, 1, true)
}
