package front_test

import (
	"testing"

	"blackboard/api"
	"blackboard/front"
)

// P17.1: New.

// may are geometries that may be: each field at its least, at its greatest, and between.
func may() []api.Geo {
	return []api.Geo{
		middle,
		{Blocks: 4, Pages: 2, W: 1, K: 9},
		{Blocks: 4, Pages: 5, W: 3, K: 20},
		{Blocks: 64, Pages: 5, W: 3, K: 20},
		{Blocks: 8, Pages: 2, W: 3, K: 20},
		{Blocks: 8, Pages: 32, W: 3, K: 20},
		{Blocks: 8, Pages: 5, W: 1, K: 20},
		{Blocks: 8, Pages: 5, W: 4, K: 20},
		{Blocks: 8, Pages: 5, W: 4, K: 3},
		{Blocks: 8, Pages: 5, W: 3, K: 3}, // one above the head
		{Blocks: 8, Pages: 5, W: 3, K: 64},
		{Blocks: 64, Pages: 32, W: 4, K: 64},
	}
}

// with are middle four times, each with one of its fields n.
func with(n int) []api.Geo {
	a, b, c, d := middle, middle, middle, middle
	a.Blocks, b.Pages, c.W, d.K = n, n, n, n
	return []api.Geo{a, b, c, d}
}

// mayNot are geometries that may not be.
func mayNot() []api.Geo {
	l := []api.Geo{
		{},
		{Blocks: 3, Pages: 5, W: 3, K: 20},
		{Blocks: 65, Pages: 5, W: 3, K: 20},
		{Blocks: 8, Pages: 1, W: 3, K: 20},
		{Blocks: 8, Pages: 33, W: 3, K: 20},
		{Blocks: 8, Pages: 5, W: 0, K: 20},
		{Blocks: 8, Pages: 5, W: 5, K: 20},
		{Blocks: 8, Pages: 5, W: 3, K: 0},
		{Blocks: 8, Pages: 5, W: 3, K: 65},
		{Blocks: 8, Pages: 5, W: 2, K: 4}, // just the head
		{Blocks: 8, Pages: 5, W: 1, K: 8},
		{Blocks: -8, Pages: -5, W: 3, K: 20},
		{Blocks: 8, Pages: 5, W: -3, K: -20},
	}
	for _, n := range []int{least, -1 << 32, -1, 0, 1 << 8, 1<<32 + 4, greatest} {
		l = append(l, with(n)...)
		l = append(l, api.Geo{Blocks: n, Pages: n, W: n, K: n})
	}
	return l
}

func TestNewIsNotOpen(t *testing.T) {
	for _, g := range append(may(), mayNot()...) {
		f := front.New(g)
		if f == nil {
			t.Fatalf("New(%+v) = nil", g)
		}
		notOpen(t, f)
		take(t, f, 0, 0, false)
		shut(t, f, -1)
		notOpen(t, f)
	}
}

// Of each that may be the first page and the last can be opened, and none behind them.
func TestNewOfWhatMayBe(t *testing.T) {
	for _, g := range may() {
		blocks, pages := g.Blocks, g.Pages
		f := front.New(g)
		open(t, f, blocks, 0, false)
		open(t, f, 0, pages, false)
		open(t, f, blocks-1, pages, false)
		notOpen(t, f)
		open(t, f, 0, 0, true)
		stands(t, f, 0, pages)
		shut(t, f, 0)
		open(t, f, blocks-1, pages-1, true)
		stands(t, f, blocks-1, 1)
		take(t, f, blocks-1, pages-1, true)
		notOpen(t, f)
	}
}

func TestNewOfWhatMayNotBe(t *testing.T) {
	for _, g := range mayNot() {
		f := front.New(g)
		refuses(t, f)
		open(t, f, g.Blocks-1, g.Pages-1, false)
		notOpen(t, f)
		take(t, f, 0, 0, false)
		shut(t, f, -1)
		refuses(t, f)
		notOpen(t, f)
	}
}

// What a frontier was made of is its own: a geometry is a value.
func TestNewKeepsNothingOfWhatItWasGiven(t *testing.T) {
	g := middle
	f := front.New(g)
	g.Blocks, g.Pages = 64, 32
	open(t, f, 8, 0, false)
	open(t, f, 0, 5, false)
	open(t, f, 7, 4, true)
	take(t, f, 7, 4, true)
	notOpen(t, f)
}
