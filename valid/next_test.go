package valid_test

import (
	"testing"

	"blackboard/valid"
)

// P14.1: Next.

func TestNextOfNone(t *testing.T) {
	for _, n := range lengths {
		b := valid.New(n)
		for _, from := range append(every(-3, n+3), far...) {
			next(t, b, from, 0, false)
		}
	}
}

func TestNextOfOne(t *testing.T) {
	for _, n := range lengths {
		for i := range n {
			b := bits(t, n, i)
			for from := -3; from <= n+3; from++ {
				if from <= i {
					next(t, b, from, i, true)
				} else {
					next(t, b, from, 0, false)
				}
			}
		}
	}
}

func TestNextOfAll(t *testing.T) {
	for _, n := range lengths {
		b := bits(t, n, every(0, n)...)
		for i := range n {
			next(t, b, i, i, true)
		}
		next(t, b, n, 0, false)
		next(t, b, n+1, 0, false)
	}
}

func TestNextFromOneThatIsSet(t *testing.T) {
	b := bits(t, 200, 0, 1, 5, 63, 64, 127, 199)
	for _, i := range []int{0, 1, 5, 63, 64, 127, 199} {
		next(t, b, i, i, true)
	}
}

func TestNextFromBesideOne(t *testing.T) {
	b := bits(t, 200, 5, 63, 64, 127, 130)
	next(t, b, 4, 5, true)
	next(t, b, 6, 63, true)
	next(t, b, 62, 63, true)
	next(t, b, 65, 127, true)
	next(t, b, 126, 127, true)
	next(t, b, 128, 130, true)
	next(t, b, 129, 130, true)
	next(t, b, 131, 0, false)
}

func TestNextAcrossWords(t *testing.T) {
	b := bits(t, most, 3, most-1)
	for _, from := range []int{4, 63, 64, 65, 127, 128, 65535, 65536, most / 2, most - 65, most - 64, most - 63, most - 2, most - 1} {
		next(t, b, from, most-1, true)
	}
	next(t, b, most, 0, false)
	set(t, b, most/2, true, true)
	for _, from := range []int{4, 64, most/2 - 64, most/2 - 1, most / 2} {
		next(t, b, from, most/2, true)
	}
	next(t, b, most/2+1, most-1, true)
	b = bits(t, 400, 63, 320)
	for from := 64; from <= 320; from++ {
		next(t, b, from, 320, true)
	}
}

func TestNextFromBelowNone(t *testing.T) {
	for _, i := range []int{0, 1, 63, 64, 150} {
		b := bits(t, 151, i)
		for _, from := range far {
			if from < 0 {
				next(t, b, from, i, true)
			}
		}
	}
}

func TestNextFromTheEndOn(t *testing.T) {
	for _, n := range lengths {
		b := bits(t, n, every(0, n)...)
		for _, from := range append(every(n, n+130), far...) {
			if from >= n {
				next(t, b, from, 0, false)
			}
		}
	}
}

func TestNextWhereNoneFollows(t *testing.T) {
	b := bits(t, 200, 5, 63, 64, 100)
	for from := 101; from <= 200; from++ {
		next(t, b, from, 0, false)
	}
	set(t, b, 100, false, true)
	for from := 65; from <= 200; from++ {
		next(t, b, from, 0, false)
	}
	next(t, b, 64, 64, true)
	set(t, b, 64, false, true)
	next(t, b, 64, 0, false)
	next(t, b, 63, 63, true)
}
