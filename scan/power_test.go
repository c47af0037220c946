package scan_test

import (
	"testing"

	"blackboard/api"
	"blackboard/scan"
)

// P18.1: the error of a Sense ends it.

// Without power nothing is read, and nothing counts: also of a block that there is none of.
func TestWithoutPower(t *testing.T) {
	c := made(t, small, nil, api.Fate{At: 1, Do: cut, Keep: 9})
	m := api.Mark{Kind: 1, Lpn: 4, Seq: 4}
	wrote(t, c, 0, 0, m)
	programmed(t, c, 1, 0, says(t, small, m), api.ErrPower)
	for _, b := range append([]int{0, 1, 2, 3, 4, 5}, far...) {
		blind(t, c, b, api.ErrPower, 0)
	}
	c.Power()
	sees(t, c, 0, scan.Sight{Found: []scan.Found{{Page: 0, Mark: m}}, Used: 1})
	sees(t, c, 1, scan.Sight{Used: 1, Torn: 1})
	blind(t, c, 5, api.ErrArg, 1)
}

// Wherever the power goes, it ends there; with power it is all there again.
func TestPowerThatGoesAtEachSense(t *testing.T) {
	for _, g := range sizes {
		for used := range g.Pages + 1 {
			for at := range g.Pages {
				c := made(t, g, nil, api.Fate{At: used + at, Do: cut, Keep: at})
				want := scan.Sight{Used: used}
				for p := range used {
					m := api.Mark{Kind: 1, Lpn: 3 + p, Seq: 90 - p}
					wrote(t, c, 2, p, m)
					want.Found = append(want.Found, scan.Found{Page: 2*g.Pages + p, Mark: m})
				}
				blind(t, c, 2, api.ErrPower, at+1)
				blind(t, c, 2, api.ErrPower, 0)
				c.Power()
				sees(t, c, 2, want)
			}
		}
	}
}

// Power that goes at each of them, one after another, and then not any more.
func TestPowerThatGoesAgainAndAgain(t *testing.T) {
	c := made(t, small, nil, api.Fate{At: 1, Do: cut}, api.Fate{At: 3, Do: cut}, api.Fate{At: 4, Do: cut}, api.Fate{At: 8, Do: cut}, api.Fate{At: 13, Do: cut})
	m := api.Mark{Kind: 2, Lpn: 1, Seq: 8}
	wrote(t, c, 3, 0, m)
	for _, ops := range []int{1, 2, 1, 4} {
		blind(t, c, 3, api.ErrPower, ops)
		c.Power()
	}
	sees(t, c, 3, scan.Sight{Found: []scan.Found{{Page: 12, Mark: m}}, Used: 1})
	blind(t, c, 3, api.ErrPower, 1)
}

// A Sense that is to fail fails nothing.
func TestSensesThatAreToFail(t *testing.T) {
	for at := range small.Pages {
		c := made(t, small, nil, api.Fate{At: 2 + at, Do: fail, Keep: 1})
		want := scan.Sight{Used: 2}
		for p := range 2 {
			m := api.Mark{Kind: 1, Lpn: p, Seq: p}
			wrote(t, c, 1, p, m)
			want.Found = append(want.Found, scan.Found{Page: 4 + p, Mark: m})
		}
		sees(t, c, 1, want)
	}
}

// What befalls an operation doesn't befall one that is refused: a block that there is none of has its own error.
func TestPowerThatWouldGoWhereThereIsNoBlock(t *testing.T) {
	c := made(t, small, nil, api.Fate{At: 0, Do: cut}, api.Fate{At: 2, Do: cut})
	blind(t, c, 5, api.ErrArg, 1)
	blind(t, c, -1, api.ErrArg, 1)
	blind(t, c, 0, api.ErrPower, 1)
	blind(t, c, 5, api.ErrPower, 0)
}
