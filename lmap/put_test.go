package lmap_test

import (
	"testing"

	"blackboard/api"
)

// P15.1: Put.

func TestPutWhatLayNowhere(t *testing.T) {
	m, w := made(t, 10, 20), modelOf(10, 20)
	for lpn := range 10 {
		page := (lpn * 7) % 20
		put(t, m, lpn, page, -1, api.OK)
		w.put(lpn, page)
		holds(t, m, w)
	}
}

func TestPutWhatLayElsewhere(t *testing.T) {
	m, w := made(t, 3, 20), modelOf(3, 20)
	put(t, m, 1, 0, -1, api.OK)
	w.put(1, 0)
	for page := 1; page < 20; page++ {
		put(t, m, 1, page, page-1, api.OK)
		w.put(1, page)
		get(t, m, 1, page, true)
		owner(t, m, page, 1, true)
		owner(t, m, page-1, 0, false)
		count(t, m, 0, 20, 1)
		many(t, m, 1)
		holds(t, m, w)
	}
	put(t, m, 1, 0, 19, api.OK) // and back to where it lay ahead of all
	w.put(1, 0)
	holds(t, m, w)
}

// Page 0 and lpn 0 are as any others: where one lay on it, 0 is answered, not -1.
func TestPutOfTheFirst(t *testing.T) {
	m := made(t, 4, 4)
	put(t, m, 0, 0, -1, api.OK)
	put(t, m, 0, 0, -1, api.OK)
	put(t, m, 1, 0, 0, api.ErrArg)
	put(t, m, 0, 1, 0, api.OK)
	owner(t, m, 0, 0, false)
	owner(t, m, 1, 0, true)
	get(t, m, 0, 1, true)
	put(t, m, 1, 1, 0, api.ErrArg)
	put(t, m, 1, 0, -1, api.OK)
	put(t, m, 0, 0, 0, api.ErrArg)
	many(t, m, 2)
}

func TestPutWhereItLies(t *testing.T) {
	m, w := made(t, 6, 9), modelOf(6, 9)
	for lpn := range 6 {
		put(t, m, lpn, 8-lpn, -1, api.OK)
		w.put(lpn, 8-lpn)
	}
	for range 3 {
		for lpn := range 6 {
			put(t, m, lpn, 8-lpn, -1, api.OK)
			holds(t, m, w)
		}
	}
	put(t, m, 2, 0, 6, api.OK)
	put(t, m, 2, 0, -1, api.OK)
}

func TestPutOnAnothersPage(t *testing.T) {
	m, w := made(t, 6, 9), modelOf(6, 9)
	for lpn := range 5 {
		put(t, m, lpn, lpn+2, -1, api.OK)
		w.put(lpn, lpn+2)
	}
	for lpn := range 6 { // 5 lies nowhere
		for page := 2; page < 7; page++ {
			if page != lpn+2 {
				put(t, m, lpn, page, 0, api.ErrArg)
				holds(t, m, w)
			}
		}
	}
}

func TestPutOnThePageThatAnotherLeft(t *testing.T) {
	m, w := made(t, 4, 6), modelOf(4, 6)
	put(t, m, 0, 3, -1, api.OK)
	put(t, m, 1, 3, 0, api.ErrArg)
	put(t, m, 0, 4, 3, api.OK)
	put(t, m, 1, 3, -1, api.OK)
	put(t, m, 0, 3, 0, api.ErrArg)
	put(t, m, 1, 5, 3, api.OK)
	put(t, m, 0, 3, 4, api.OK)
	w.put(1, 5)
	w.put(0, 3)
	holds(t, m, w)
}

func TestPutOfNoSuchLpn(t *testing.T) {
	m, w := made(t, 5, 8), modelOf(5, 8)
	put(t, m, 3, 2, -1, api.OK)
	w.put(3, 2)
	for _, lpn := range append([]int{5, 6, 7, 8, 9, 64, 65}, far...) {
		for page := range 8 { // also 2, which another has: ErrRange stands ahead
			put(t, m, lpn, page, 0, api.ErrRange)
		}
		holds(t, m, w)
	}
}

func TestPutOnNoSuchPage(t *testing.T) {
	m, w := made(t, 12, 5), modelOf(12, 5)
	put(t, m, 3, 2, -1, api.OK)
	w.put(3, 2)
	for _, page := range append([]int{5, 6, 7, 11, 12, 64, 65}, far...) {
		for lpn := range 12 {
			put(t, m, lpn, page, 0, api.ErrRange)
		}
		holds(t, m, w)
	}
}

func TestPutOfNeither(t *testing.T) {
	m, w := made(t, 5, 8), modelOf(5, 8)
	put(t, m, 4, 7, -1, api.OK)
	w.put(4, 7)
	for _, lpn := range append([]int{5, 8}, far...) {
		for _, page := range append([]int{8, 9}, far...) {
			put(t, m, lpn, page, 0, api.ErrRange)
		}
	}
	holds(t, m, w)
}

func TestPutOnEveryPage(t *testing.T) {
	const n = 130
	m, w := made(t, n, n), modelOf(n, n)
	for lpn := range n {
		put(t, m, lpn, n-1-lpn, -1, api.OK)
		w.put(lpn, n-1-lpn)
	}
	holds(t, m, w)
	for lpn := range n { // there is room for none any more
		put(t, m, lpn, lpn, 0, api.ErrArg)
	}
	holds(t, m, w)
	drop(t, m, 0, n-1, true)
	put(t, m, n-1, n-1, 0, api.OK)
	put(t, m, 0, 0, -1, api.OK)
	many(t, m, n)
}

func TestPutOfMoreLpnsThanPages(t *testing.T) {
	m := made(t, 100, 3)
	for lpn := range 3 {
		put(t, m, lpn, lpn, -1, api.OK)
	}
	for lpn := 3; lpn < 100; lpn++ {
		put(t, m, lpn, lpn%3, 0, api.ErrArg)
	}
	drop(t, m, 1, 1, true)
	put(t, m, 99, 1, -1, api.OK)
	owner(t, m, 1, 99, true)
	many(t, m, 3)
}

func TestPutOfMost(t *testing.T) {
	m := made(t, most, most)
	for lpn := range most {
		if was, err := m.Put(lpn, most-1-lpn); was != -1 || err != api.OK {
			t.Fatalf("Put(%d, %d) = %d, %v", lpn, most-1-lpn, was, err)
		}
	}
	many(t, m, most)
	count(t, m, 0, most, most)
	for i := 0; i < most; i += 61 {
		get(t, m, i, most-1-i, true)
		owner(t, m, i, most-1-i, true)
	}
	put(t, m, most-1, most-1, 0, api.ErrArg)
	put(t, m, most, 0, 0, api.ErrRange)
	drop(t, m, 0, most-1, true)
	put(t, m, most-1, most-1, 0, api.OK)
	many(t, m, most-1)
}
