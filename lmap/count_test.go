package lmap_test

import (
	"testing"

	"blackboard/api"
)

// P15.1: Count and Many.

func TestCountOfNothing(t *testing.T) {
	for _, pages := range []int{0, 1, 9, 64, 65} {
		m := made(t, 9, pages)
		for from := -3; from <= pages+3; from++ {
			for to := -3; to <= pages+3; to++ {
				count(t, m, from, to, 0)
			}
		}
	}
}

func TestCountOfEverything(t *testing.T) {
	for _, pages := range []int{1, 2, 9, 63, 64, 65, 130} {
		m := made(t, 200, pages)
		for page := range pages {
			put(t, m, 199-page, page, -1, api.OK)
		}
		for from := -3; from <= pages+3; from++ {
			for to := -3; to <= pages+3; to++ {
				count(t, m, from, to, max(min(to, pages)-max(from, 0), 0))
			}
		}
		count(t, m, least, greatest, pages)
		many(t, m, pages)
	}
}

// Pages are counted, not lpns: those here lie far from the pages of their own numbers.
func TestCountOfPages(t *testing.T) {
	m := made(t, 10, 200)
	for lpn := range 10 {
		put(t, m, lpn, 190-lpn*9, -1, api.OK)
	}
	count(t, m, 0, 10, 0)
	count(t, m, 0, 109, 0)
	count(t, m, 0, 110, 1)
	count(t, m, 109, 110, 1)
	count(t, m, 110, 118, 0)
	count(t, m, 109, 119, 2)
	count(t, m, 110, 119, 1)
	count(t, m, 181, 191, 2)
	count(t, m, 182, 190, 0)
	count(t, m, 191, 200, 0)
	count(t, m, 0, 200, 10)
	put(t, m, 9, 0, 109, api.OK)
	count(t, m, 0, 10, 1)
	count(t, m, 0, 1, 1)
	count(t, m, 1, 118, 0)
	count(t, m, 0, 200, 10)
	drop(t, m, 0, 190, true)
	count(t, m, 182, 200, 0)
	count(t, m, 0, 200, 9)
}

func TestCountFromAboveTo(t *testing.T) {
	m := made(t, 80, 80)
	for i := range 80 {
		put(t, m, i, i, -1, api.OK)
	}
	for from := -2; from < 85; from++ {
		for to := -5; to < from; to++ {
			count(t, m, from, to, 0)
		}
		count(t, m, from, least, 0)
		count(t, m, greatest, from, 0)
	}
	count(t, m, greatest, least, 0)
}

func TestCountFromTheSameAsTo(t *testing.T) {
	m := made(t, 80, 80)
	for i := range 80 {
		put(t, m, i, i, -1, api.OK)
	}
	for _, i := range append(every(-3, 90), far...) {
		count(t, m, i, i, 0)
	}
}

func TestCountFarOut(t *testing.T) {
	m := made(t, 80, 100)
	for i := range 80 {
		put(t, m, i, i+10, -1, api.OK)
	}
	count(t, m, least, greatest, 80)
	count(t, m, -1, 101, 80)
	count(t, m, least, 11, 1)
	count(t, m, 89, greatest, 1)
	count(t, m, 90, greatest, 0)
	count(t, m, least, 10, 0)
	for _, i := range far {
		if i < 0 {
			count(t, m, i, 100, 80)
			count(t, m, i, greatest, 80)
			count(t, m, least, i, 0)
		} else {
			count(t, m, 0, i, 80)
			count(t, m, least, i, 80)
			count(t, m, i, greatest, 0)
		}
	}
}

func TestMany(t *testing.T) {
	m := made(t, 10, 20)
	many(t, m, 0)
	put(t, m, 3, 7, -1, api.OK)
	many(t, m, 1)
	put(t, m, 3, 7, -1, api.OK) // it lies there already
	many(t, m, 1)
	put(t, m, 3, 8, 7, api.OK) // it moves
	many(t, m, 1)
	put(t, m, 4, 8, 0, api.ErrArg) // refused
	many(t, m, 1)
	put(t, m, 10, 9, 0, api.ErrRange)
	many(t, m, 1)
	put(t, m, 4, 20, 0, api.ErrRange)
	many(t, m, 1)
	put(t, m, 9, 7, -1, api.OK)
	many(t, m, 2)
	put(t, m, 0, 0, -1, api.OK)
	many(t, m, 3)
	drop(t, m, 5, 0, false)
	many(t, m, 3)
	drop(t, m, 10, 0, false)
	many(t, m, 3)
	drop(t, m, 3, 8, true)
	many(t, m, 2)
	drop(t, m, 3, 0, false)
	many(t, m, 2)
	drop(t, m, 0, 0, true)
	many(t, m, 1)
	drop(t, m, 9, 7, true)
	many(t, m, 0)
}

func TestManyOfAll(t *testing.T) {
	for _, n := range []int{1, 63, 64, 65, 128, 130} {
		m := made(t, n, n+3)
		for i := range n {
			put(t, m, i, i+3, -1, api.OK)
			many(t, m, i+1)
		}
		for i := range n {
			drop(t, m, i, i+3, true)
			many(t, m, n-1-i)
		}
	}
}
