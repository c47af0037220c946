package yard_test

import (
	"testing"

	"blackboard/yard"
)

// P16.1: New.

// fresh tells that New of this many is a yard of just so many blocks, all Free, none wiped.
func fresh(t *testing.T, blocks, want int) {
	t.Helper()
	y := yard.New(blocks)
	if y == nil {
		t.Fatalf("New(%d) = nil, want a yard of %d", blocks, want)
	}
	for b := range want {
		state(t, y, b, yard.Free)
		erases(t, y, b, 0)
	}
	list(t, y, yard.Free, every(0, want)...)
	list(t, y, yard.Open)
	list(t, y, yard.Full)
	list(t, y, yard.Bad)
	pick(t, y, 0, want > 0)
	holds(t, y, modelOf(want))
}

func TestNewOfEachNumber(t *testing.T) {
	for blocks := 0; blocks <= most; blocks++ {
		fresh(t, blocks, blocks)
	}
}

func TestNewOfFewerThanNone(t *testing.T) {
	for _, blocks := range []int{least, least + 1, least + 5, -1 << 62, -1<<32 + 8, -1 << 32, -65, -64, -63, -8, -2, -1} {
		fresh(t, blocks, 0)
	}
}

func TestNewOfMoreThanMost(t *testing.T) {
	for _, blocks := range []int{65, 66, 127, 128, 129, 255, 256, 264, 1 << 16, 1 << 20, 1 << 32, 1<<32 + 8, 1 << 62, greatest - 1, greatest} {
		fresh(t, blocks, most)
	}
}

// The last block is as any other, and there is none behind it.
func TestNewEnds(t *testing.T) {
	for _, blocks := range []int{1, 2, 63, 64, 65, greatest} {
		last := min(blocks, most) - 1
		y, w := yard.New(blocks), modelOf(last+1)
		y.Erased(last)
		y.Erased(last + 1)
		w.erased(last)
		turn(t, y, last, yard.Open, true)
		turn(t, y, last+1, yard.Open, false)
		w.turn(last, yard.Open)
		holds(t, y, w)
	}
}
