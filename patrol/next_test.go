package patrol_test

import (
	"testing"

	"blackboard/api"
	"blackboard/patrol"
)

// P19.1: Next and Rounds.

// A whole round tells each page once, in the order of their numbers; so does each that follows.
func TestEachPageOnceInOrder(t *testing.T) {
	for _, g := range may() {
		p := patrol.New(g)
		for round := range 3 {
			n := 0
			for block := range g.Blocks {
				for page := range g.Pages {
					next(t, p, block, page)
					n++
					if n < g.Blocks*g.Pages {
						rounds(t, p, round)
					}
				}
			}
			rounds(t, p, round+1)
		}
		next(t, p, 0, 0)
		rounds(t, p, 3)
	}
}

// No page is left out, and none is told twice, wherever a round is begun.
func TestEachPageOnceFromAnywhere(t *testing.T) {
	for begin := range 8 * 5 {
		p := patrol.New(middle)
		for range begin {
			p.Next()
		}
		var told [8][5]int
		for range 8 * 5 {
			block, page := p.Next()
			told[block][page]++
		}
		for block := range told {
			for page, n := range told[block] {
				if n != 1 {
					t.Errorf("from call %d on: page %d of block %d was told %d times", begin, page, block, n)
				}
			}
		}
		rounds(t, p, (begin+8*5)/(8*5))
	}
}

func TestFirstCall(t *testing.T) {
	for _, g := range may() {
		p := patrol.New(g)
		if p == nil {
			t.Fatalf("New(%+v) = nil", g)
		}
		rounds(t, p, 0)
		next(t, p, 0, 0)
		rounds(t, p, 0)
		next(t, p, 0, 1)
		rounds(t, p, 0)
	}
}

// The end of a round: ahead of its last page, at it, and behind it.
func TestEndOfARound(t *testing.T) {
	for _, g := range may() {
		all := g.Blocks * g.Pages
		for round := range 4 {
			p := patrol.New(g)
			for range (round+1)*all - 2 {
				p.Next()
			}
			rounds(t, p, round)
			next(t, p, g.Blocks-1, g.Pages-2)
			rounds(t, p, round)
			next(t, p, g.Blocks-1, g.Pages-1)
			rounds(t, p, round+1)
			next(t, p, 0, 0)
			rounds(t, p, round+1)
			next(t, p, 0, 1)
			rounds(t, p, round+1)
		}
	}
}

// The end of a block: the page behind it is the first of the next one.
func TestEndOfABlock(t *testing.T) {
	for _, g := range may() {
		p := patrol.New(g)
		for block := range g.Blocks {
			for range g.Pages - 1 {
				p.Next()
			}
			next(t, p, block, g.Pages-1)
			if block < g.Blocks-1 {
				rounds(t, p, 0)
			}
		}
		rounds(t, p, 1)
	}
}

func TestManyRounds(t *testing.T) {
	for _, g := range may() {
		p, w := patrol.New(g), modelOf(g)
		for range 70000 {
			does(t, p, w)
		}
	}
}

// Sizes of codewords are nothing to a patrol, and blocks and pages are not taken for one another.
func TestOnlyBlocksAndPagesTell(t *testing.T) {
	a, b := patrol.New(middle), patrol.New(api.Geo{Blocks: 8, Pages: 5, W: 4, K: 64})
	other, w := patrol.New(api.Geo{Blocks: 5, Pages: 8, W: 3, K: 20}), modelOf(api.Geo{Blocks: 5, Pages: 8})
	for range 3 * 8 * 5 {
		block, page := a.Next()
		next(t, b, block, page)
		rounds(t, b, a.Rounds())
		does(t, other, w)
	}
}

// R3: however often it is asked, Rounds changes nothing.
func TestRoundsChangesNothing(t *testing.T) {
	p, w := patrol.New(middle), modelOf(middle)
	for k := range 4 * 8 * 5 {
		for range k % 7 {
			rounds(t, p, w.rounds)
		}
		does(t, p, w)
	}
}

// A geometry that may not be has no pages, and no rounds.
func TestNextOfWhatMayNotBe(t *testing.T) {
	for _, g := range mayNot() {
		p := patrol.New(g)
		for range 200 {
			next(t, p, 0, 0)
			rounds(t, p, 0)
		}
	}
}
