package front_test

import (
	"testing"

	"blackboard/front"
)

// P17.1: Next and Take.

// From wherever it was opened all pages come, in order, each of them told by Next; behind the last it is shut.
func TestTakeOfAllThatAreLeft(t *testing.T) {
	for _, g := range may() {
		each(g, func(block, page int) {
			f := openAt(t, g, block, page)
			for p := page; p < g.Pages; p++ {
				next(t, f, block, p, true)
				stands(t, f, block, g.Pages-p)
				take(t, f, block, p, true)
			}
			notOpen(t, f)
			take(t, f, 0, 0, false)
			shut(t, f, -1)
		})
	}
}

// Next takes nothing, however often it is asked.
func TestNextIsWhatTakeAnswersThen(t *testing.T) {
	for _, times := range []int{0, 1, 2, 9} {
		f := openAt(t, middle, 5, 1)
		for p := 1; p < 5; p++ {
			for range times {
				next(t, f, 5, p, true)
			}
			stands(t, f, 5, 5-p)
			take(t, f, 5, p, true)
		}
		for range times {
			next(t, f, 0, 0, false)
		}
		take(t, f, 0, 0, false)
	}
}

func TestNextAndTakeOfWhatIsNotOpen(t *testing.T) {
	f := front.New(middle)
	for range 3 {
		next(t, f, 0, 0, false)
		take(t, f, 0, 0, false)
		notOpen(t, f)
	}
	open(t, f, 7, 4, true)
	take(t, f, 7, 4, true)
	for range 3 { // behind the last page of all
		next(t, f, 0, 0, false)
		take(t, f, 0, 0, false)
		notOpen(t, f)
	}
	open(t, f, 6, 2, true)
	shut(t, f, 6)
	for range 3 { // shut ahead of its end
		next(t, f, 0, 0, false)
		take(t, f, 0, 0, false)
		notOpen(t, f)
	}
	// It goes on as if it had not been asked.
	open(t, f, 1, 3, true)
	take(t, f, 1, 3, true)
	take(t, f, 1, 4, true)
	take(t, f, 0, 0, false)
}

// Behind a block's last page comes no page of the block behind it.
func TestTakeDoesNotGoOnIntoAnotherBlock(t *testing.T) {
	for _, g := range may() {
		for block := range g.Blocks {
			f := openAt(t, g, block, g.Pages-1)
			take(t, f, block, g.Pages-1, true)
			for range 3 {
				take(t, f, 0, 0, false)
				notOpen(t, f)
			}
		}
	}
}

// One after another, all blocks can be taken through.
func TestTakeOfAllPagesThereAre(t *testing.T) {
	for _, g := range may() {
		f := front.New(g)
		each(g, func(block, page int) {
			open(t, f, block, 0, page == 0)
			take(t, f, block, page, true)
		})
		notOpen(t, f)
	}
}
