package front_test

import (
	"testing"

	"blackboard/front"
)

// P17.1: Open.

func TestOpenOfEachPage(t *testing.T) {
	for _, g := range may() {
		each(g, func(block, page int) {
			f := openAt(t, g, block, page)
			next(t, f, block, page, true)
			stands(t, f, block, g.Pages-page)
		})
	}
}

// beside are numbers that there are none of, where there are n: on either side, near and far.
func beside(n int) []int {
	return append([]int{-3, -2, -1, n, n + 1, n + 2, 2 * n}, far...)
}

func TestOpenOfNoBlock(t *testing.T) {
	for _, g := range may() {
		f := front.New(g)
		for _, block := range beside(g.Blocks) {
			for page := range g.Pages { // also where block and page together would be another page's number
				open(t, f, block, page, false)
			}
		}
		notOpen(t, f)
	}
}

func TestOpenOfNoPage(t *testing.T) {
	for _, g := range may() {
		f := front.New(g)
		for block := range g.Blocks {
			for _, page := range beside(g.Pages) {
				open(t, f, block, page, false)
			}
		}
		notOpen(t, f)
	}
}

func TestOpenOfNeither(t *testing.T) {
	for _, g := range may() {
		f := front.New(g)
		for _, block := range beside(g.Blocks) {
			for _, page := range beside(g.Pages) {
				open(t, f, block, page, false)
			}
		}
		notOpen(t, f)
	}
}

// One that is open stays where it is, whatever it is to be opened at: the place where it is, too.
func TestOpenOfWhatIsOpen(t *testing.T) {
	each(middle, func(block, page int) {
		f := openAt(t, middle, block, page)
		each(middle, func(b, p int) {
			open(t, f, b, p, false)
		})
		next(t, f, block, page, true)
		stands(t, f, block, 5-page)
		for _, b := range beside(8) {
			for _, p := range beside(5) {
				open(t, f, b, p, false)
			}
		}
		next(t, f, block, page, true)
		stands(t, f, block, 5-page)
		take(t, f, block, page, true)
		if page < 4 { // open still, one page on
			open(t, f, block, page, false)
			open(t, f, block, page+1, false)
			open(t, f, (block+1)%8, 0, false)
			take(t, f, block, page+1, true)
		}
	})
}

// R3: an Open that is refused changes nothing: neither of what is open nor of what can be opened next.
func TestOpenThatIsRefusedChangesNothing(t *testing.T) {
	each(middle, func(block, page int) {
		f := front.New(middle)
		open(t, f, block, 5, false)
		open(t, f, block, -1, false)
		open(t, f, -1, page, false)
		open(t, f, 8, page, false)
		notOpen(t, f)
		take(t, f, 0, 0, false)
		open(t, f, block, page, true)
		for p := page; p < 5; p++ {
			open(t, f, 7-block, 0, false)
			open(t, f, block, 5, false)
			open(t, f, 8, 0, false)
			take(t, f, block, p, true)
		}
		notOpen(t, f)
		open(t, f, block, 5, false)
		notOpen(t, f)
	})
}

// Behind a block's last page any other can be opened, and the same one again.
func TestOpenBehindTheLastPage(t *testing.T) {
	each(middle, func(block, page int) {
		f := openAt(t, middle, 3, 4)
		take(t, f, 3, 4, true)
		open(t, f, block, page, true)
		take(t, f, block, page, true)
	})
}
