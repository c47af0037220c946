package yard_test

import (
	"testing"

	"blackboard/yard"
)

// P16.1: Erased and Erases.

func TestErasedOnceMore(t *testing.T) {
	y := yard.New(3)
	for n := range 1000 {
		erases(t, y, 1, n)
		y.Erased(1)
	}
	erases(t, y, 1, 1000)
	erases(t, y, 0, 0)
	erases(t, y, 2, 0)
}

func TestErasedLeavesTheOthers(t *testing.T) {
	const blocks = 7
	y, w := yard.New(blocks), modelOf(blocks)
	for b := range blocks {
		for range 3 {
			wipe(y, w, b, 1)
			holds(t, y, w)
		}
	}
	for _, blocks := range []int{1, 2, most} {
		for b := range blocks {
			y := yard.New(blocks)
			y.Erased(b)
			for other := range blocks {
				if other == b {
					erases(t, y, other, 1)
				} else {
					erases(t, y, other, 0)
				}
			}
		}
	}
}

// Whatever a block is: it is counted, and stays what it is.
func TestErasedOfEachState(t *testing.T) {
	for _, s := range states {
		y, w := brought(t, 4, 2, s)
		for n := 1; n <= 5; n++ {
			wipe(y, w, 2, 1)
			erases(t, y, 2, n)
			state(t, y, 2, s)
			holds(t, y, w)
		}
	}
}

// Whatever it becomes, and what is refused: it was wiped as often.
func TestErasesStayOverTurns(t *testing.T) {
	y, w := yard.New(3), modelOf(3)
	wipe(y, w, 1, 4)
	for _, to := range []int{yard.Full, yard.Open, yard.Open, yard.Full, yard.Free, 0, 5, yard.Open, yard.Bad, yard.Free} {
		turn(t, y, 1, to, w.turn(1, to))
		erases(t, y, 1, 4)
		holds(t, y, w)
	}
	wipe(y, w, 1, 2)
	erases(t, y, 1, 6)
	state(t, y, 1, yard.Bad)
}

func TestErasedOfNoBlock(t *testing.T) {
	for _, blocks := range []int{0, 1, 8, 63, 64} {
		y, w := yard.New(blocks), modelOf(blocks)
		for b := range blocks {
			wipe(y, w, b, b%3)
		}
		for _, b := range append([]int{-3, -2, -1, blocks, blocks + 1, blocks + 2, most}, far...) {
			y.Erased(b)
			erases(t, y, b, 0)
		}
		holds(t, y, w)
	}
}
