package scan_test

import (
	"testing"

	"blackboard/api"
	"blackboard/chip"
	"blackboard/scan"
)

// P18.1: pages that are not whole, have moved, or say what they should not.

// missing is how many symbols a codeword lacks at the most of a page of which the first keep cells are programmed.
func missing(g api.Geo, keep int) int {
	return (max(0, cellsOf(g)-keep) + g.W - 1) / g.W
}

// shows is what a block shows of that one page behind those that are found, the first keep cells of which are programmed.
func shows(g api.Geo, before []scan.Found, n int, m api.Mark, keep int) scan.Sight {
	s := scan.Sight{Found: before, Used: len(before)}
	switch lacks := missing(g, keep); {
	case keep <= 0:
		return s
	case lacks > most:
		s.Torn = 1
	default:
		s.Found = append(s.Found, scan.Found{Page: n, Mark: m, Wrong: lacks})
	}
	s.Used++
	return s
}

// begun is a device whose block 1 has one page, and of whose next one keep cells are to be programmed; and what the first one is.
func begun(t *testing.T, g api.Geo, do, keep int, err api.Errno) (*chip.Chip, api.Mark, []scan.Found) {
	t.Helper()
	first, m := api.Mark{Kind: 1, Lpn: 6, Seq: 1}, api.Mark{Kind: 1, Lpn: 6, Seq: 2}
	c := made(t, g, nil, api.Fate{At: 1, Do: do, Keep: keep})
	wrote(t, c, 1, 0, first)
	programmed(t, c, 1, 1, says(t, g, m), err)
	c.Power()
	return c, m, []scan.Found{{Page: g.Pages, Mark: first}}
}

// With at most eight missing in each codeword a page can be read; with more it is torn.
func TestProgramsThatWereCutOff(t *testing.T) {
	for _, g := range sizes {
		n := cellsOf(g)
		for keep := range n + 2 {
			c, m, before := begun(t, g, cut, keep, api.ErrPower)
			sees(t, c, 1, shows(g, before, g.Pages+1, m, keep))
		}
		c, m, before := begun(t, g, cut, greatest, api.ErrPower)
		sees(t, c, 1, shows(g, before, g.Pages+1, m, n))
	}
}

// A program that fails leaves out so many that the page can't be read, however much of it is done.
func TestProgramsThatFailed(t *testing.T) {
	for _, g := range sizes {
		n := cellsOf(g)
		for _, keep := range []int{0, 1, 2, g.W, 8 * g.W, n - 9*g.W - 1, n - 9*g.W, n - 9*g.W + 1, n - 8*g.W, n - 1, n, n + 1, greatest} {
			c, _, before := begun(t, g, fail, keep, api.ErrProgram)
			want := scan.Sight{Found: before, Used: 1}
			if keep > 0 {
				want.Used, want.Torn = 2, 1
			}
			sees(t, c, 1, want)
		}
	}
}

// A torn page is not there, and those behind it are.
func TestPagesBehindTornOnes(t *testing.T) {
	c := made(t, small, nil, api.Fate{At: 0, Do: cut, Keep: 1}, api.Fate{At: 6, Do: fail, Keep: 20})
	l := []api.Mark{{Kind: 1, Lpn: 1, Seq: 5}, {Kind: 1, Lpn: 2, Seq: 6}, {Kind: 1, Lpn: 3, Seq: 7}, {Kind: 1, Lpn: 4, Seq: 8}}
	programmed(t, c, 0, 0, says(t, small, l[0]), api.ErrPower)
	c.Power()
	sees(t, c, 0, scan.Sight{Used: 1, Torn: 1}) // four operations
	wrote(t, c, 0, 1, l[1])
	programmed(t, c, 0, 2, says(t, small, l[2]), api.ErrProgram)
	sees(t, c, 0, scan.Sight{Found: []scan.Found{{Page: 1, Mark: l[1]}}, Used: 3, Torn: 2})
	wrote(t, c, 0, 3, l[3])
	sees(t, c, 0, scan.Sight{Found: []scan.Found{{Page: 1, Mark: l[1]}, {Page: 3, Mark: l[3]}}, Used: 4, Torn: 2})
	sees(t, c, 1, scan.Sight{})
}

// Torn pages behind blank ones count, too; and where all of them are torn, none is found.
func TestTornPagesBehindBlankOnes(t *testing.T) {
	for keep := range small.Pages + 1 {
		l := []api.Fate{{At: small.Pages, Do: cut, Keep: keep}}
		for p := range small.Pages {
			l = append(l, api.Fate{At: p, Do: fail, Keep: 5 + p})
		}
		c := made(t, small, nil, l...)
		for p := range small.Pages {
			programmed(t, c, 3, p, says(t, small, api.Mark{Kind: 1}), api.ErrProgram)
		}
		erased(t, c, 3, api.ErrPower)
		c.Power()
		want := scan.Sight{Used: small.Pages, Torn: small.Pages - keep}
		if keep == small.Pages {
			want = scan.Sight{}
		}
		sees(t, c, 3, want)
	}
}

// With up to eight that have moved to another symbol in a codeword, a page says how many; with nine it is torn.
func TestPagesThatMoved(t *testing.T) {
	d := &dice{5}
	for _, g := range sizes {
		for w := range g.W {
			c, m := made(t, g, nil), d.mark()
			wrote(t, c, 2, 0, m)
			for n, i := range d.places(most+1, g.K+parity) {
				sees(t, c, 2, scan.Sight{Found: []scan.Found{{Page: 2 * g.Pages, Mark: m, Wrong: n}}, Used: 1})
				wrong(t, c, 2, 0, i*g.W+w)
			}
			sees(t, c, 2, scan.Sight{Used: 1, Torn: 1})
		}
	}
}

// Cells that lose their charge count as those that tell another symbol do.
func TestPagesThatLoseCharge(t *testing.T) {
	d := &dice{6}
	for _, g := range sizes {
		for w := range g.W {
			c, m := made(t, g, nil), d.mark()
			wrote(t, c, 2, 0, m)
			for n, i := range d.places(most+1, g.K+parity) {
				sees(t, c, 2, scan.Sight{Found: []scan.Found{{Page: 2 * g.Pages, Mark: m, Wrong: n}}, Used: 1})
				if n%2 == 0 {
					nought(t, c, 2, 0, i*g.W+w)
				} else {
					wrong(t, c, 2, 0, i*g.W+w)
				}
			}
			sees(t, c, 2, scan.Sight{Used: 1, Torn: 1})
		}
	}
}

// Wrong is what the worst codeword has, not all of them together: eight in each are read.
func TestWrongIsOfTheWorstCodeword(t *testing.T) {
	d := &dice{7}
	for _, g := range sizes {
		for range 5 {
			c, m := made(t, g, nil), d.mark()
			wrote(t, c, 0, 0, m)
			worst := 0
			for w := range g.W {
				n := d.below(most + 1)
				worst = max(worst, n)
				for _, i := range d.places(n, g.K+parity) {
					wrong(t, c, 0, 0, i*g.W+w)
				}
			}
			sees(t, c, 0, scan.Sight{Found: []scan.Found{{Page: 0, Mark: m, Wrong: worst}}, Used: 1})
		}
		c, m := made(t, g, nil), d.mark()
		wrote(t, c, 0, 0, m)
		for cell := range most * g.W {
			wrong(t, c, 0, 0, cell)
		}
		sees(t, c, 0, scan.Sight{Found: []scan.Found{{Page: 0, Mark: m, Wrong: most}}, Used: 1})
		nought(t, c, 0, 0, most*g.W) // one codeword has nine
		sees(t, c, 0, scan.Sight{Used: 1, Torn: 1})
	}
}

// A move that is not far enough to tell another symbol makes nothing wrong.
func TestPagesThatMovedALittle(t *testing.T) {
	c, m := made(t, small, nil), api.Mark{Kind: 1, Lpn: 9, Seq: 2}
	wrote(t, c, 4, 0, m)
	for cell, p := range points(t, c, 4, 0) {
		if real(p) == 31 { // beyond the last symbol there is none
			moved(t, c, 4, 0, cell, 62)
		} else { // half way to another symbol, but the nearer one of the two as they are told apart
			moved(t, c, 4, 0, cell, -1)
		}
	}
	sees(t, c, 4, scan.Sight{Found: []scan.Found{{Page: 16, Mark: m}}, Used: 1})
}

// A page all of whose cells lost their charge is blank, whatever was put there: it is neither found nor torn.
func TestPagesThatAreBlankAgain(t *testing.T) {
	all := []api.Mark{{Kind: 1, Lpn: 1, Seq: 1}, {Kind: 1, Lpn: 2, Seq: 2}, {Kind: 2, Lpn: 3, Seq: 3}, {Kind: 1, Lpn: 4, Seq: 4}}
	for which := range 1 << len(all) {
		c := made(t, small, nil)
		var want scan.Sight
		for p, m := range all {
			wrote(t, c, 2, p, m)
			if which>>p&1 == 0 {
				want.Found = append(want.Found, scan.Found{Page: 8 + p, Mark: m})
				want.Used = p + 1
			}
		}
		for p := range all {
			if which>>p&1 != 0 {
				noughts(t, c, 2, p)
			}
		}
		sees(t, c, 2, want)
	}
}

// One cell with a charge is enough: the page is not blank, and can't be read.
func TestPagesOfWhichOneCellIsLeft(t *testing.T) {
	c := made(t, small, nil)
	for p := range 2 {
		wrote(t, c, 2, p, api.Mark{Kind: 1, Lpn: 1, Seq: p})
		noughts(t, c, 2, p)
	}
	sees(t, c, 2, scan.Sight{})
	moved(t, c, 2, 1, cellsOf(small)-1, 1i)
	sees(t, c, 2, scan.Sight{Used: 2, Torn: 1})
	moved(t, c, 2, 0, 0, -1)
	sees(t, c, 2, scan.Sight{Used: 2, Torn: 2})
}

// formless are the symbols of pages whose codewords are well, and of which Make makes none: of no kind, with something at the head's end, with a bit behind the last byte.
func formless(g api.Geo) [][]uint16 {
	n := g.W * g.K
	none, end, behind := make([]uint16, n), make([]uint16, n), make([]uint16, n)
	none[1] = 1
	end[0], end[7] = 1, 1
	behind[0], behind[n-1] = 1, 1
	l := [][]uint16{make([]uint16, n), none, end}
	if (n-head)*10%8 != 0 {
		l = append(l, behind)
	}
	return l
}

// A page that can be read, but says what Make would not have made, is not there.
func TestPagesThatMakeDidNotMake(t *testing.T) {
	for _, g := range sizes {
		for _, s := range formless(g) {
			c, m := made(t, g, nil), api.Mark{Kind: 1, Lpn: 2, Seq: 3}
			programmed(t, c, 1, 0, coded(t, g, s), api.OK)
			sees(t, c, 1, scan.Sight{Used: 1, Torn: 1})
			wrote(t, c, 1, 1, m)
			sees(t, c, 1, scan.Sight{Found: []scan.Found{{Page: g.Pages + 1, Mark: m}}, Used: 2, Torn: 1})
			wrong(t, c, 1, 0, 0)
			wrong(t, c, 1, 1, 0)
			sees(t, c, 1, scan.Sight{Found: []scan.Found{{Page: g.Pages + 1, Mark: m, Wrong: 1}}, Used: 2, Torn: 1})
		}
		c, s := made(t, g, nil), make([]uint16, g.W*g.K)
		s[0] = 1 // this is one that Make makes, of noughts
		programmed(t, c, 1, 0, coded(t, g, s), api.OK)
		sees(t, c, 1, scan.Sight{Found: []scan.Found{{Page: g.Pages, Mark: api.Mark{Kind: 1}}}, Used: 1})
	}
}

// Symbols that are no codewords: nobody made them.
func TestPagesOfAnySymbols(t *testing.T) {
	d := &dice{8}
	c := made(t, small, nil)
	for p := range small.Pages {
		s := make([]uint16, cellsOf(small))
		for i := range s {
			s[i] = uint16(d.below(1024))
		}
		programmed(t, c, 0, p, s, api.OK)
		sees(t, c, 0, scan.Sight{Used: p + 1, Torn: p + 1})
	}
}
