package yard_test

import (
	"testing"

	"blackboard/yard"
)

// P16.1: State and Turn.

func TestStates(t *testing.T) {
	y := yard.New(4)
	state(t, y, 0, yard.Free)
	turn(t, y, 1, yard.Open, true)
	state(t, y, 1, yard.Open)
	turn(t, y, 2, yard.Open, true)
	turn(t, y, 2, yard.Full, true)
	state(t, y, 2, yard.Full)
	turn(t, y, 3, yard.Bad, true)
	state(t, y, 3, yard.Bad)
	state(t, y, 0, yard.Free)
	state(t, y, -1, 0)
	state(t, y, 4, 0)
}

func TestStateOfNoBlock(t *testing.T) {
	for _, blocks := range []int{0, 1, 8, 63, 64} {
		y, w := yard.New(blocks), modelOf(blocks)
		for b := range blocks {
			bring(t, y, w, b, states[b%4])
		}
		for _, b := range append([]int{-3, -2, -1, blocks, blocks + 1, blocks + 2, most}, far...) {
			state(t, y, b, 0)
		}
	}
}

// What each state may become, pair by pair.
func TestTurnFromEachToEach(t *testing.T) {
	f, o, u, b := yard.Free, yard.Open, yard.Full, yard.Bad
	for _, x := range []struct {
		from, to int
		may      bool
	}{
		{f, f, false}, {f, o, true}, {f, u, false}, {f, b, true},
		{o, f, false}, {o, o, false}, {o, u, true}, {o, b, true},
		{u, f, true}, {u, o, false}, {u, u, false}, {u, b, true},
		{b, f, false}, {b, o, false}, {b, u, false}, {b, b, false},
	} {
		for _, blocks := range []int{1, 5, most} {
			for _, i := range []int{0, blocks / 2, blocks - 1} {
				y, w := brought(t, blocks, i, x.from)
				turn(t, y, i, x.to, x.may)
				if x.may {
					state(t, y, i, x.to)
				} else {
					state(t, y, i, x.from)
				}
				w.turn(i, x.to)
				holds(t, y, w)
			}
		}
	}
}

func TestTurnToNoState(t *testing.T) {
	for _, from := range states {
		y, w := brought(t, 5, 2, from)
		for _, to := range none {
			turn(t, y, 2, to, false)
		}
		holds(t, y, w)
	}
}

func TestTurnOfNoBlock(t *testing.T) {
	for _, blocks := range []int{0, 1, 8, 63, 64} {
		y, w := yard.New(blocks), modelOf(blocks)
		for b := range blocks {
			bring(t, y, w, b, states[b%4])
		}
		for _, b := range append([]int{-3, -2, -1, blocks, blocks + 1, blocks + 2, most}, far...) {
			for _, to := range append(none, states...) {
				turn(t, y, b, to, false)
			}
		}
		holds(t, y, w)
	}
}

// Round and round: a block that is wiped is written again, till it is Bad.
func TestTurnRound(t *testing.T) {
	y, w := yard.New(3), modelOf(3)
	for range 5 {
		for _, to := range []int{yard.Open, yard.Full, yard.Free} {
			turn(t, y, 1, to, true)
			w.turn(1, to)
			holds(t, y, w)
		}
	}
	turn(t, y, 1, yard.Bad, true)
	w.turn(1, yard.Bad)
	for range 3 {
		for _, to := range append(none, states...) {
			turn(t, y, 1, to, false)
		}
	}
	holds(t, y, w)
}

// The other way round, and twice the same, is refused.
func TestTurnBack(t *testing.T) {
	y := yard.New(1)
	turn(t, y, 0, yard.Full, false)
	turn(t, y, 0, yard.Free, false)
	turn(t, y, 0, yard.Open, true)
	turn(t, y, 0, yard.Open, false)
	turn(t, y, 0, yard.Free, false)
	turn(t, y, 0, yard.Full, true)
	turn(t, y, 0, yard.Full, false)
	turn(t, y, 0, yard.Open, false)
	turn(t, y, 0, yard.Free, true)
	state(t, y, 0, yard.Free)
}

// Each block for itself: any of a yard's may be any of the four.
func TestTurnLeavesTheOthers(t *testing.T) {
	const blocks = 9
	for b := range blocks {
		for _, to := range states {
			y, w := yard.New(blocks), modelOf(blocks)
			for other := range blocks {
				if other != b {
					bring(t, y, w, other, states[other%4])
					wipe(y, w, other, other)
				}
			}
			bring(t, y, w, b, to)
			holds(t, y, w)
			for _, next := range append(none, states...) {
				turn(t, y, b, next, w.turn(b, next))
				holds(t, y, w)
			}
		}
	}
}
