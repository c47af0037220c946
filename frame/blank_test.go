package frame_test

import (
	"math"
	"testing"

	"blackboard/frame"
)

// minus is 0 with a minus sign, which a constant can't be.
var minus = math.Copysign(0, -1)

// noughts are all the points that are just 0.
var noughts = []complex128{0, complex(minus, 0), complex(0, minus), complex(minus, minus)}

// others are points that are not: as near to it as can be, in one part alone, far off, and what is no number.
var others = []complex128{
	1, -1, 1i, -1i, 1 + 1i, -31 - 31i, 31 + 31i, 1000, 1e-300i, -0.25,
	complex(math.SmallestNonzeroFloat64, 0), complex(0, -math.SmallestNonzeroFloat64), complex(minus, math.SmallestNonzeroFloat64),
	complex(math.NaN(), 0), complex(0, math.NaN()), complex(math.NaN(), math.NaN()),
	complex(math.Inf(1), 0), complex(0, math.Inf(-1)),
}

// P11.2: what is blank.

func TestBlankOfNone(t *testing.T) {
	if !frame.Blank(nil) || !frame.Blank([]complex128{}) {
		t.Error("none are not blank")
	}
	if !frame.Blank([]complex128{1}[:0]) || !frame.Blank([]complex128{0, 0, 1}[:2]) {
		t.Error("spare room is not blank")
	}
}

func TestBlankOfNoughts(t *testing.T) {
	for _, p := range noughts {
		if !frame.Blank([]complex128{p}) {
			t.Errorf("%v is not blank", p)
		}
	}
	if !frame.Blank(noughts) || !frame.Blank(make([]complex128, 320)) {
		t.Error("noughts are not blank")
	}
}

func TestBlankOfAllButOne(t *testing.T) {
	for _, p := range others {
		if frame.Blank([]complex128{p}) {
			t.Errorf("%v is blank", p)
		}
		for i := range 40 {
			l := make([]complex128, 40)
			l[i] = p
			if frame.Blank(l) {
				t.Errorf("all 0 but %v at %d are blank", p, i)
			}
		}
	}
	if frame.Blank(others) {
		t.Error("none is 0, but they are blank")
	}
}

func TestBlankLeavesThePointsAsTheyWere(t *testing.T) {
	for _, n := range []int{0, 1, 3, len(others)} {
		p := append(append([]complex128(nil), noughts...), others...)
		was := append([]complex128(nil), p...)
		frame.Blank(p[:n])
		if !like(p, was) {
			t.Errorf("of %d: the points were changed", n)
		}
	}
}
