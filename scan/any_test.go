package scan_test

import (
	"slices"
	"testing"

	"blackboard/api"
	"blackboard/chip"
	"blackboard/scan"
)

// P18.1: Block, of blocks with pages of all kinds in any order, held against what was done to each.

// The kinds of pages that are put there.
const (
	fresh = iota
	worn
	cutOff
	failed
	formed
	gone
	kinds
)

// page is what is done to one page, and what is to be seen of it: that it is found, that it is torn, or neither.
type page struct {
	kind, keep  int
	found, torn bool
	mark        api.Mark
	wrong       int
}

// thrown is any page.
func thrown(g api.Geo, d *dice) page {
	p := page{kind: d.below(kinds), mark: d.mark()}
	switch p.kind {
	case fresh:
		p.found = true
	case worn:
		p.wrong = d.below(most + 2)
		p.found = p.wrong <= most
	case cutOff:
		p.keep = cellsOf(g) - d.below(10*g.W)
		p.wrong = missing(g, p.keep)
		p.found = p.wrong <= most
	case failed:
		p.keep = 1 + d.below(cellsOf(g))
	}
	p.torn = !p.found && p.kind != gone
	return p
}

// fates are what is to befall the programs of pages, from that operation on.
func fates(l []page, at int) []api.Fate {
	var f []api.Fate
	for i, p := range l {
		switch p.kind {
		case cutOff:
			f = append(f, api.Fate{At: at + i, Do: cut, Keep: p.keep})
		case failed:
			f = append(f, api.Fate{At: at + i, Do: fail, Keep: p.keep})
		}
	}
	return f
}

// put programs a page.
func put(t *testing.T, c *chip.Chip, block, at int, p page, d *dice) {
	t.Helper()
	g := c.Geo()
	switch p.kind {
	case cutOff:
		programmed(t, c, block, at, says(t, g, p.mark), api.ErrPower)
		c.Power()
	case failed:
		programmed(t, c, block, at, says(t, g, p.mark), api.ErrProgram)
	case formed:
		l := formless(g)
		programmed(t, c, block, at, coded(t, g, l[d.below(len(l))]), api.OK)
	default:
		wrote(t, c, block, at, p.mark)
	}
}

// move moves the cells of a page that is to be worn, or gone.
func move(t *testing.T, c *chip.Chip, block, at int, p page, d *dice) {
	t.Helper()
	g := c.Geo()
	switch p.kind {
	case gone:
		noughts(t, c, block, at)
	case worn:
		w := d.below(g.W)
		for _, i := range d.places(p.wrong, g.K+parity) {
			nought(t, c, block, at, i*g.W+w)
		}
	}
}

// sightOf is what is to be seen of a block, the first pages of which were wiped.
func sightOf(g api.Geo, block, wiped int, l []page) scan.Sight {
	var s scan.Sight
	for i, p := range slices.Backward(l) {
		if i < wiped || !p.found && !p.torn {
			continue
		}
		s.Used = max(s.Used, i+1)
		if p.torn {
			s.Torn++
		} else {
			s.Found = append(s.Found, scan.Found{Page: block*g.Pages + i, Mark: p.mark, Wrong: p.wrong})
		}
	}
	slices.Reverse(s.Found)
	return s
}

func TestPagesOfAllKinds(t *testing.T) {
	d := &dice{9}
	for _, g := range sizes[:4] {
		for range 60 {
			blocks := make([][]page, g.Blocks)
			var l []api.Fate
			ops := 0
			for b := range blocks {
				for range d.below(g.Pages + 1) {
					blocks[b] = append(blocks[b], thrown(g, d))
				}
				l = append(l, fates(blocks[b], ops)...)
				ops += len(blocks[b])
			}
			which, wiped := d.below(g.Blocks), d.below(g.Pages+1)
			c := made(t, g, nil, append(l, api.Fate{At: ops, Do: cut, Keep: wiped})...)
			for b, pages := range blocks {
				for i, p := range pages {
					put(t, c, b, i, p, d)
				}
				for i, p := range pages {
					move(t, c, b, i, p, d)
				}
			}
			erased(t, c, which, api.ErrPower)
			c.Power()
			for b, pages := range blocks {
				gone := 0
				if b == which {
					gone = wiped
				}
				sees(t, c, b, sightOf(g, b, gone, pages))
			}
		}
	}
}
