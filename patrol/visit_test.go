package patrol_test

import (
	"testing"

	"blackboard/api"
	"blackboard/patrol"
)

// P19.1: Visit.

func TestVisitIsNext(t *testing.T) {
	for _, g := range may() {
		p, w := patrol.New(g), modelOf(g)
		for k := range 3*g.Blocks*g.Pages + 3 {
			block, page := w.next()
			visit(t, g, k, block, page)
			next(t, p, block, page)
		}
	}
}

// It hangs on its arguments alone: asked in any order, it answers the same.
func TestVisitInAnyOrder(t *testing.T) {
	d := &dice{seed: 4}
	for _, g := range may() {
		for range 1000 {
			k := d.below(1 << 20)
			n := k
			for n >= g.Blocks*g.Pages {
				n -= g.Blocks * g.Pages
			}
			block := 0
			for n >= g.Pages {
				n -= g.Pages
				block++
			}
			visit(t, g, k, block, n)
		}
	}
}

func TestVisitBelowNought(t *testing.T) {
	for _, g := range may() {
		all := g.Blocks * g.Pages
		for k := -1; k >= -3*all; k-- {
			visit(t, g, k, 0, 0)
		}
		for _, k := range []int{least, least + 1, least + 3, least/all*all + 1, least / 2, -1<<32 + 1, -1 << 32, -1<<32 - 1} {
			visit(t, g, k, 0, 0)
		}
	}
}

// The greatest int is one less than a power of two.
func TestVisitOfVeryGreat(t *testing.T) {
	powers := []api.Geo{
		{Blocks: 4, Pages: 2, W: 1, K: 9},
		{Blocks: 8, Pages: 32, W: 3, K: 20},
		{Blocks: 64, Pages: 32, W: 4, K: 64},
	}
	for _, g := range powers {
		visit(t, g, greatest, g.Blocks-1, g.Pages-1)
		visit(t, g, greatest-1, g.Blocks-1, g.Pages-2)
		visit(t, g, 1<<62, 0, 0)
		visit(t, g, 1<<32, 0, 0)
		visit(t, g, 1<<32+1, 0, 1)
		visit(t, g, 1<<31-1, g.Blocks-1, g.Pages-1)
	}
	// 2^63 - 1 is 7 modulo 40, 2^62 is 24, 2^32 is 16.
	visit(t, middle, greatest, 1, 2)
	visit(t, middle, greatest-7, 0, 0)
	visit(t, middle, greatest-8, 7, 4)
	visit(t, middle, 1<<62, 4, 4)
	visit(t, middle, 1<<32, 3, 1)
	for _, g := range may() {
		all := g.Blocks * g.Pages
		whole := greatest / all * all
		visit(t, g, whole, 0, 0)
		visit(t, g, whole-1, g.Blocks-1, g.Pages-1)
		visit(t, g, whole-all+1, 0, 1)
		visit(t, g, whole-g.Pages, g.Blocks-1, 0)
	}
}

func TestVisitOfWhatMayNotBe(t *testing.T) {
	for _, g := range mayNot() {
		for _, k := range []int{least, -9, -1, 0, 1, 2, 7, 31, 39, 40, 41, 1000, 1 << 32, greatest} {
			visit(t, g, k, 0, 0)
		}
	}
}
