package valid_test

import (
	"testing"

	"blackboard/valid"
)

// P14.1: New and Len.

// unset tells that b is n bits of which none is set: each, those beside them, and what is none.
func unset(t *testing.T, b *valid.Bits, n int) {
	t.Helper()
	if b == nil {
		t.Fatalf("New: nil, want %d bits", n)
	}
	length(t, b, n)
	for i := -70; i < n+70; i++ {
		if b.Has(i) {
			t.Errorf("of %d new bits: Has(%d)", n, i)
		}
	}
	for _, i := range far {
		has(t, b, i, false)
		next(t, b, i, 0, false)
		count(t, b, i, greatest, 0)
		count(t, b, least, i, 0)
	}
	next(t, b, 0, 0, false)
	count(t, b, 0, n, 0)
}

// ends tells that n are just as many as can be set.
func ends(t *testing.T, b *valid.Bits, n int) {
	t.Helper()
	set(t, b, n, true, false)
	if n > 0 {
		set(t, b, 0, true, true)
		set(t, b, 0, false, true)
		set(t, b, n-1, true, true)
		next(t, b, 0, n-1, true)
		count(t, b, 0, n, 1)
	}
	length(t, b, n)
}

func TestNew(t *testing.T) {
	for n := range 300 {
		unset(t, valid.New(n), n)
		ends(t, valid.New(n), n)
	}
	for _, n := range []int{1000, 1023, 1024, 1025, 2048, most / 2} {
		unset(t, valid.New(n), n)
		ends(t, valid.New(n), n)
	}
}

func TestNewBelowNone(t *testing.T) {
	for _, n := range []int{-1, -2, -63, -64, -65, -most, -1 << 32, -1<<32 + 8, -1 << 62, least + 1, least} {
		unset(t, valid.New(n), 0)
		ends(t, valid.New(n), 0)
	}
}

func TestNewOfMost(t *testing.T) {
	for _, n := range []int{most - 65, most - 64, most - 63, most - 1, most} {
		unset(t, valid.New(n), n)
		ends(t, valid.New(n), n)
	}
}

func TestNewOfMoreThanMost(t *testing.T) {
	for _, n := range []int{most + 1, most + 63, most + 64, 2 * most, 1 << 32, 1<<32 + 8, 1 << 62, greatest - 64, greatest - 62, greatest - 1, greatest} {
		unset(t, valid.New(n), most)
		ends(t, valid.New(n), most)
	}
}
