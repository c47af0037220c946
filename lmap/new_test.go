package lmap_test

import (
	"testing"

	"blackboard/api"
	"blackboard/lmap"
)

// P15.1: New.

// wrong are numbers that a map can't be made of.
var wrong = []int{least, least + 1, -1 << 62, -1 << 32, -1<<32 + 8, -most - 1, -most, -2, -1,
	most + 1, most + 2, 2 * most, 1 << 32, 1<<32 + 8, 1 << 62, greatest - 1, greatest}

// right are numbers that a map can be made of.
var right = []int{0, 1, 2, 3, 63, 64, 65, 1000, 2048, most - 1, most}

// refused tells that there is no such map.
func refused(t *testing.T, lpns, pages int) {
	t.Helper()
	if m, err := lmap.New(lpns, pages); m != nil || err != api.ErrArg {
		t.Errorf("New(%d, %d) = %v, %v, want nil, %v", lpns, pages, m, err, api.ErrArg)
	}
}

// ends tells that m, in which nothing lies, is of just so many lpns and pages.
func ends(t *testing.T, m *lmap.Map, lpns, pages int) {
	t.Helper()
	put(t, m, lpns, 0, 0, api.ErrRange)
	put(t, m, 0, pages, 0, api.ErrRange)
	put(t, m, lpns, pages, 0, api.ErrRange)
	many(t, m, 0)
	if lpns == 0 || pages == 0 {
		return
	}
	put(t, m, lpns-1, pages-1, -1, api.OK)
	get(t, m, lpns-1, pages-1, true)
	owner(t, m, pages-1, lpns-1, true)
	drop(t, m, lpns-1, pages-1, true)
	put(t, m, 0, pages-1, -1, api.OK)
	owner(t, m, pages-1, 0, true)
	drop(t, m, 0, pages-1, true)
	put(t, m, lpns-1, 0, -1, api.OK)
	get(t, m, lpns-1, 0, true)
	many(t, m, 1)
}

func TestNewOfAnySizes(t *testing.T) {
	for _, lpns := range right {
		for _, pages := range right {
			ends(t, made(t, lpns, pages), lpns, pages)
		}
	}
}

func TestNewOfNone(t *testing.T) {
	for _, m := range []*lmap.Map{made(t, 0, 0), made(t, 0, 9), made(t, 9, 0)} {
		for lpn := range 10 {
			for page := range 10 {
				put(t, m, lpn, page, 0, api.ErrRange)
			}
			nowhere(t, m, lpn)
		}
		many(t, m, 0)
	}
}

func TestNewHoldsNothing(t *testing.T) {
	for lpns := range 70 {
		for _, pages := range []int{0, 1, 5, 64, 65, 130} {
			m := made(t, lpns, pages)
			for i := -2; i < max(lpns, pages)+2; i++ {
				nowhere(t, m, i)
			}
			many(t, m, 0)
		}
	}
	m := made(t, most, most)
	many(t, m, 0)
	count(t, m, least, greatest, 0)
	for i := 0; i < most; i += 977 {
		nowhere(t, m, i)
	}
	nowhere(t, m, most-1)
	for _, i := range far {
		nowhere(t, m, i)
	}
}

func TestNewOfWrongLpns(t *testing.T) {
	for _, lpns := range wrong {
		for _, pages := range right {
			refused(t, lpns, pages)
		}
	}
}

func TestNewOfWrongPages(t *testing.T) {
	for _, pages := range wrong {
		for _, lpns := range right {
			refused(t, lpns, pages)
		}
	}
}

func TestNewOfBothWrong(t *testing.T) {
	for _, lpns := range wrong {
		for _, pages := range wrong {
			refused(t, lpns, pages)
		}
	}
}
