package valid_test

import (
	"testing"

	"blackboard/valid"
)

// P14.1: Count.

func TestCountOfNothing(t *testing.T) {
	for _, n := range lengths {
		b := valid.New(n)
		for from := -3; from <= n+3; from++ {
			for to := -3; to <= n+3; to++ {
				count(t, b, from, to, 0)
			}
		}
	}
}

func TestCountOfEverything(t *testing.T) {
	for _, n := range lengths {
		b := bits(t, n, every(0, n)...)
		for from := -3; from <= n+3; from++ {
			for to := -3; to <= n+3; to++ {
				count(t, b, from, to, max(min(to, n)-max(from, 0), 0))
			}
		}
	}
}

func TestCountOfOne(t *testing.T) {
	for _, i := range []int{0, 1, 62, 63, 64, 65, 127, 128, 129, 149} {
		b := bits(t, 150, i)
		count(t, b, i, i, 0)
		count(t, b, i, i+1, 1)
		count(t, b, i-1, i, 0)
		count(t, b, i-1, i+1, 1)
		count(t, b, i+1, i+2, 0)
		count(t, b, 0, i, 0)
		count(t, b, 0, i+1, 1)
		count(t, b, i, 150, 1)
		count(t, b, i+1, 150, 0)
		count(t, b, i+1, i, 0)
	}
}

func TestCountOfParts(t *testing.T) {
	b := bits(t, 256, every(0, 256)...)
	count(t, b, 3, 9, 6) // within a word
	count(t, b, 60, 64, 4)
	count(t, b, 64, 70, 6)
	count(t, b, 0, 64, 64) // at its borders
	count(t, b, 64, 128, 64)
	count(t, b, 64, 192, 128)
	count(t, b, 63, 65, 2) // in another word
	count(t, b, 63, 64, 1)
	count(t, b, 64, 65, 1)
	count(t, b, 10, 74, 64)
	count(t, b, 10, 138, 128)
	count(t, b, 63, 193, 130)
	count(t, b, 1, 255, 254)
	count(t, b, 255, 256, 1)
}

func TestCountOfSome(t *testing.T) {
	b := bits(t, 200, 0, 5, 63, 64, 66, 130, 199)
	count(t, b, 0, 200, 7)
	count(t, b, 1, 199, 5)
	count(t, b, 5, 64, 2)
	count(t, b, 6, 63, 0)
	count(t, b, 63, 64, 1)
	count(t, b, 64, 128, 2)
	count(t, b, 65, 130, 1)
	count(t, b, 67, 130, 0)
	count(t, b, 128, 192, 1)
	count(t, b, 131, 199, 0)
	count(t, b, 131, 200, 1)
	set(t, b, 66, false, true)
	count(t, b, 64, 128, 1)
	count(t, b, 0, 200, 6)
}

func TestCountFromAboveTo(t *testing.T) {
	b := bits(t, 200, every(0, 200)...)
	for _, from := range []int{1, 5, 63, 64, 65, 128, 199, 200, 201, 500, greatest} {
		for _, to := range []int{least, -64, -1, 0} {
			count(t, b, from, to, 0)
		}
		count(t, b, from, from-1, 0)
	}
	count(t, b, 9, 5, 0)
	count(t, b, 70, 5, 0)
	count(t, b, 70, 65, 0)
	count(t, b, 64, 63, 0)
	count(t, b, 199, 1, 0)
	count(t, b, greatest, least, 0)
	count(t, b, 0, least, 0)
	count(t, b, greatest, 200, 0)
}

func TestCountFromTheSameAsTo(t *testing.T) {
	for _, n := range lengths {
		b := bits(t, n, every(0, n)...)
		for _, i := range append(every(-3, n+3), far...) {
			count(t, b, i, i, 0)
		}
	}
}

func TestCountFarOut(t *testing.T) {
	for _, n := range append([]int{most}, lengths...) {
		b := bits(t, n, every(0, n)...)
		count(t, b, least, greatest, n)
		count(t, b, -1, n+1, n)
		count(t, b, -64, n+64, n)
		count(t, b, 0, greatest, n)
		count(t, b, least, n, n)
		count(t, b, least, 0, 0)
		count(t, b, n, greatest, 0)
		count(t, b, least, -1, 0)
		count(t, b, -1, 0, 0)
		count(t, b, n+1, greatest, 0)
		if n > 0 {
			count(t, b, least, 1, 1)
			count(t, b, -7, 1, 1)
			count(t, b, n-1, greatest, 1)
			count(t, b, n-1, n+7, 1)
			count(t, b, least, n-1, n-1)
			count(t, b, 1, greatest, n-1)
		}
		for _, i := range far {
			if i < 0 {
				count(t, b, least, i, 0)
				count(t, b, i, greatest, n)
			} else {
				count(t, b, least, i, n)
				count(t, b, i, greatest, 0)
			}
		}
	}
}

func TestCountOfMost(t *testing.T) {
	b := bits(t, most, every(0, most)...)
	for _, i := range []int{1, 63, 64, 65, 65536, 65537, most/2 + 5, most - 64, most - 1} {
		count(t, b, 0, i, i)
		count(t, b, i, most, most-i)
		count(t, b, i-1, i, 1)
	}
	for i := 0; i < most; i += 4 {
		set(t, b, i, false, true)
	}
	count(t, b, 0, most, most/4*3)
	count(t, b, 4, most-4, most/4*3-6)
}
