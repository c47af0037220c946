package lmap_test

import (
	"testing"

	"blackboard/api"
)

// P15.1: Get and Owner.

func TestGetAndOwner(t *testing.T) {
	m := made(t, 10, 10)
	put(t, m, 2, 9, -1, api.OK)
	put(t, m, 9, 2, -1, api.OK)
	put(t, m, 5, 5, -1, api.OK)
	put(t, m, 0, 7, -1, api.OK)
	put(t, m, 7, 0, -1, api.OK)
	get(t, m, 2, 9, true)
	get(t, m, 9, 2, true)
	get(t, m, 5, 5, true)
	get(t, m, 0, 7, true)
	get(t, m, 7, 0, true)
	owner(t, m, 9, 2, true)
	owner(t, m, 2, 9, true)
	owner(t, m, 5, 5, true)
	owner(t, m, 7, 0, true)
	owner(t, m, 0, 7, true)
	for _, i := range []int{1, 3, 4, 6, 8} {
		get(t, m, i, 0, false)
		owner(t, m, i, 0, false)
	}
}

func TestGetWhatDoesNotLieAnyMore(t *testing.T) {
	m := made(t, 10, 10)
	put(t, m, 4, 6, -1, api.OK)
	drop(t, m, 4, 6, true)
	get(t, m, 4, 0, false)
	owner(t, m, 6, 0, false)
	put(t, m, 4, 3, -1, api.OK)
	get(t, m, 4, 3, true)
	owner(t, m, 6, 0, false)
	owner(t, m, 3, 4, true)
}

func TestGetWhatThereIsNoneOf(t *testing.T) {
	m := made(t, 5, 70)
	for lpn := range 5 {
		put(t, m, lpn, 60+lpn, -1, api.OK)
	}
	for _, lpn := range append(every(5, 140), far...) {
		get(t, m, lpn, 0, false)
	}
	for lpn := -130; lpn < 0; lpn++ {
		get(t, m, lpn, 0, false)
	}
	m = made(t, most, 8)
	put(t, m, most-1, 3, -1, api.OK)
	get(t, m, most-1, 3, true)
	for _, lpn := range far {
		get(t, m, lpn, 0, false)
	}
}

func TestOwnerOfWhatThereIsNoneOf(t *testing.T) {
	m := made(t, 70, 5)
	for page := range 5 {
		put(t, m, 60+page, page, -1, api.OK)
	}
	for _, page := range append(every(5, 140), far...) {
		owner(t, m, page, 0, false)
	}
	for page := -130; page < 0; page++ {
		owner(t, m, page, 0, false)
	}
	m = made(t, 8, most)
	put(t, m, 3, most-1, -1, api.OK)
	owner(t, m, most-1, 3, true)
	for _, page := range far {
		owner(t, m, page, 0, false)
	}
}
