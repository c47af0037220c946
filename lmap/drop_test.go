package lmap_test

import (
	"testing"

	"blackboard/api"
)

// P15.1: Drop.

func TestDropWhatLies(t *testing.T) {
	m, w := made(t, 8, 12), modelOf(8, 12)
	for lpn := range 8 {
		put(t, m, lpn, 11-lpn, -1, api.OK)
		w.put(lpn, 11-lpn)
	}
	for _, lpn := range []int{0, 7, 3, 4, 1, 6, 2, 5} {
		drop(t, m, lpn, 11-lpn, true)
		w.drop(lpn)
		holds(t, m, w)
	}
	many(t, m, 0)
}

func TestDropOfTheFirst(t *testing.T) {
	m := made(t, 3, 3)
	put(t, m, 0, 0, -1, api.OK)
	drop(t, m, 0, 0, true)
	drop(t, m, 0, 0, false)
	get(t, m, 0, 0, false)
	owner(t, m, 0, 0, false)
	many(t, m, 0)
	put(t, m, 1, 0, -1, api.OK)
	drop(t, m, 0, 0, false) // 1 lies on page 0, 0 nowhere
	owner(t, m, 0, 1, true)
	many(t, m, 1)
}

func TestDropWhatDoesNotLie(t *testing.T) {
	m, w := made(t, 8, 12), modelOf(8, 12)
	put(t, m, 2, 5, -1, api.OK)
	put(t, m, 5, 2, -1, api.OK)
	w.put(2, 5)
	w.put(5, 2)
	for range 2 {
		for _, lpn := range []int{0, 1, 3, 4, 6, 7} {
			drop(t, m, lpn, 0, false)
			holds(t, m, w)
		}
	}
	drop(t, m, 2, 5, true)
	drop(t, m, 2, 0, false)
	w.drop(2)
	holds(t, m, w)
}

func TestDropWhatThereIsNoneOf(t *testing.T) {
	m, w := made(t, 4, 12), modelOf(4, 12)
	for lpn := range 4 {
		put(t, m, lpn, lpn+4, -1, api.OK)
		w.put(lpn, lpn+4)
	}
	for _, lpn := range append(every(4, 70), far...) {
		drop(t, m, lpn, 0, false)
	}
	for lpn := -70; lpn < 0; lpn++ {
		drop(t, m, lpn, 0, false)
	}
	holds(t, m, w)
}

func TestDropFreesThePage(t *testing.T) {
	m, w := made(t, 5, 5), modelOf(5, 5)
	put(t, m, 0, 3, -1, api.OK)
	put(t, m, 1, 3, 0, api.ErrArg)
	drop(t, m, 0, 3, true)
	put(t, m, 1, 3, -1, api.OK)
	owner(t, m, 3, 1, true)
	put(t, m, 0, 3, 0, api.ErrArg)
	put(t, m, 0, 4, -1, api.OK) // it lay nowhere, so not at 3
	drop(t, m, 1, 3, true)
	put(t, m, 0, 3, 4, api.OK)
	w.put(0, 3)
	holds(t, m, w)
}

func TestDropWhereItWasPutLast(t *testing.T) {
	m := made(t, 5, 9)
	for page := range 9 {
		m.Put(2, page)
	}
	put(t, m, 3, 4, -1, api.OK)
	drop(t, m, 2, 8, true)
	owner(t, m, 8, 0, false)
	owner(t, m, 4, 3, true)
	count(t, m, 0, 9, 1)
	many(t, m, 1)
}

func TestDropAndPutAgain(t *testing.T) {
	m := made(t, 5, 9)
	for range 4 {
		put(t, m, 2, 6, -1, api.OK)
		many(t, m, 1)
		drop(t, m, 2, 6, true)
		many(t, m, 0)
		count(t, m, 0, 9, 0)
	}
}
