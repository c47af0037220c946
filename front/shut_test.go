package front_test

import (
	"testing"

	"blackboard/front"
)

// P17.1: Block, Left and Shut.

func TestBlockAndLeft(t *testing.T) {
	f := front.New(middle)
	stands(t, f, -1, 0)
	open(t, f, 2, 0, true)
	stands(t, f, 2, 5)
	for left := 4; left > 0; left-- {
		f.Take()
		stands(t, f, 2, left)
	}
	f.Take()
	stands(t, f, -1, 0)
	f.Take()
	stands(t, f, -1, 0)
	open(t, f, 0, 4, true) // block 0 is told from none
	stands(t, f, 0, 1)
	shut(t, f, 0)
	stands(t, f, -1, 0)
}

func TestShutOfWhatIsOpen(t *testing.T) {
	for _, g := range may() {
		each(g, func(block, page int) {
			f := openAt(t, g, block, page)
			shut(t, f, block)
			notOpen(t, f)
			take(t, f, 0, 0, false)
			shut(t, f, -1)
			notOpen(t, f)
		})
	}
}

func TestShutOfWhatIsNotOpen(t *testing.T) {
	f := front.New(middle)
	for range 3 {
		shut(t, f, -1)
		notOpen(t, f)
	}
	open(t, f, 4, 4, true)
	take(t, f, 4, 4, true)
	for range 3 {
		shut(t, f, -1)
		notOpen(t, f)
	}
	open(t, f, 4, 3, true) // as if it had not been shut
	stands(t, f, 4, 2)
}

// Where it was it can go on, as if it had not been shut.
func TestShutAndOpenWhereItWas(t *testing.T) {
	each(middle, func(block, page int) {
		f := openAt(t, middle, block, 0)
		for range page {
			f.Take()
		}
		next(t, f, block, page, true)
		shut(t, f, block)
		open(t, f, block, page, true)
		for p := page; p < 5; p++ {
			stands(t, f, block, 5-p)
			take(t, f, block, p, true)
		}
		notOpen(t, f)
	})
}

// Anything else can be opened, too: another block, and the same one from another page.
func TestShutAndOpenElsewhere(t *testing.T) {
	each(middle, func(block, page int) {
		f := openAt(t, middle, 3, 1)
		take(t, f, 3, 1, true)
		open(t, f, block, page, false)
		shut(t, f, 3)
		open(t, f, block, page, true)
		stands(t, f, block, 5-page)
		take(t, f, block, page, true)
	})
}

// A Shut behind each Take, through all pages.
func TestShutBehindEachTake(t *testing.T) {
	f := front.New(middle)
	each(middle, func(block, page int) {
		open(t, f, block, page, true)
		take(t, f, block, page, true)
		if page < 4 {
			shut(t, f, block)
		} else {
			shut(t, f, -1)
		}
	})
	notOpen(t, f)
}
