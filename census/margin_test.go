package census_test

import (
	"math"
	"testing"

	"blackboard/census"
)

// margin tells what Margin answers.
func margin(t *testing.T, p []complex128, want float64) {
	t.Helper()
	if got := census.Margin(p); math.Float64bits(got) != math.Float64bits(want) && !(math.IsNaN(got) && math.IsNaN(want)) {
		t.Errorf("Margin(%v) = %v, want %v", p, got, want)
	}
}

// all are the points of all symbols.
func all() []complex128 {
	p := make([]complex128, 1024)
	for i := range p {
		p[i] = of(uint16(i))
	}
	return p
}

// P12.1: Margin.

func TestMarginOfNone(t *testing.T) {
	margin(t, nil, 1)
	margin(t, []complex128{}, 1)
	margin(t, []complex128{0, 5 + 0.5i}[:0], 1)
}

func TestMarginOfPointsOfSymbols(t *testing.T) {
	margin(t, all(), 1)
	for _, x := range all() {
		margin(t, []complex128{x}, 1)
	}
	d := dice{19}
	for _, g := range sizes {
		margin(t, fresh(d.page(t, g)), 1)
	}
}

func TestMarginOfPointsMovedByLessThanAStep(t *testing.T) {
	for _, c := range []struct {
		by   complex128
		want float64
	}{
		{0.25, 0.75}, {-0.25, 0.75}, {0.25i, 0.75}, {-0.25i, 0.75}, {0.5, 0.5}, {-0.5i, 0.5},
		{0.25 + 0.25i, 0.75}, {-0.25 + 0.5i, 0.5}, {0.5 - 0.25i, 0.5}, {-0.875 - 0.75i, 0.125}, {0.75 + 0.875i, 0.125},
		{0.9375, 0.0625}, {-0.9375i, 0.0625},
	} {
		p := all()
		for i := range p {
			p[i] += c.by
			margin(t, p[i:i+1], c.want)
		}
		margin(t, p, c.want)
	}
}

// Between two symbols there is no room left, wherever it is.
func TestMarginOfPointsInTheMiddle(t *testing.T) {
	for n := -30; n <= 30; n += 2 {
		x := float64(n)
		for _, p := range []complex128{complex(x, 1), complex(-31, x), complex(x, x), complex(x, 30), complex(x, 6.5)} {
			margin(t, []complex128{p}, 0)
		}
	}
	for _, x := range noughts {
		margin(t, []complex128{x}, 0)
		margin(t, []complex128{1 + 1i, x, 3}, 0)
	}
	margin(t, make([]complex128, 320), 0)
}

// Moved by more than a step, a point is held against the symbol that it is nearest to by then.
func TestMarginOfPointsMovedByMoreThanAStep(t *testing.T) {
	for _, c := range []struct {
		by   complex128
		want float64
	}{
		{1.25, 0.25}, {-1.25, 0.25}, {1.75i, 0.75}, {-1.5i, 0.5}, {1.5 + 1.25i, 0.25}, {-1.75 + 1.5i, 0.5},
		{2, 1}, {-2i, 1}, {2 + 2i, 1}, {4 - 6i, 1}, {7.5 - 0.125i, 0.5}, {1, 0}, {-3i, 0}, {-1 + 0.5i, 0},
	} {
		for _, from := range []complex128{1 + 1i, -1 - 1i, 15 - 9i, -19 + 23i, 7 + 7i} {
			margin(t, []complex128{from + c.by}, c.want)
		}
	}
}

func TestMarginIsThatOfTheWorst(t *testing.T) {
	for at := range 30 {
		for _, c := range []struct {
			x    complex128
			want float64
		}{{5.5 - 3i, 0.5}, {5 - 3.75i, 0.25}, {4.125 - 3.25i, 0.125}, {0, 0}, {32.5 - 31i, -0.5}, {31 - 33i, -1}} {
			p := all()[100:130]
			for i := range p {
				p[i] += complex(float64(i%5-2)/8, float64(i%4-2)/8) // by a quarter at most
			}
			margin(t, p, 0.75)
			p[at] = c.x
			margin(t, p, c.want)
		}
	}
}

func TestMarginOfPointsBeyondTheGrid(t *testing.T) {
	for _, c := range []struct {
		x    float64
		want float64
	}{{31.25, 0.75}, {31.5, 0.5}, {32, 0}, {32.5, -0.5}, {33, -1}, {62, -30}, {1000, -968}, {1e9, 32 - 1e9}, {math.MaxFloat64, -math.MaxFloat64}, {math.Inf(1), math.Inf(-1)}} {
		for _, p := range []complex128{
			complex(c.x, 1), complex(-c.x, 1), complex(3, c.x), complex(3, -c.x), complex(c.x, c.x), complex(-c.x, c.x), complex(c.x, 31), complex(-31, -c.x),
		} {
			margin(t, []complex128{p}, c.want)
			margin(t, []complex128{5.125 - 9i, p, 7 + 7i}, c.want)
		}
	}
	margin(t, []complex128{34 - 31i, 1 - 40i, -33}, -8)
}

// Of the rim's symbols one can go outward no farther than another.
func TestMarginOfTheRimMovedInward(t *testing.T) {
	margin(t, []complex128{30.5 + 31i}, 0.5)
	margin(t, []complex128{31 + 30.75i, -30.25 - 31i}, 0.25)
	margin(t, []complex128{-31 - 30i}, 0)
}

// Any points are held against a search of all levels.
func TestMarginOfAnyPoints(t *testing.T) {
	d := dice{20}
	for range 300 {
		p := make([]complex128, 1+d.below(40))
		far := 0.0
		for i := range p {
			x, y := float64(d.below(560)-280)/8, float64(d.below(560)-280)/8
			p[i] = complex(x, y)
			far = max(far, away(x), away(y))
		}
		margin(t, p, 1-far)
	}
}

// away is how far x is from the nearest of the numbers that a part of a symbol's point can be.
func away(x float64) float64 {
	least := math.Inf(1)
	for level := -31.0; level <= 31; level += 2 {
		least = min(least, math.Abs(x-level))
	}
	return least
}

// Of what is no number nothing is known, wherever it stands.
func TestMarginOfNoNumber(t *testing.T) {
	for _, x := range []complex128{complex(math.NaN(), 0.5), complex(1, math.NaN()), complex(math.NaN(), math.NaN())} {
		for at := range 3 {
			p := []complex128{1 + 1i, complex(math.Inf(1), 0), 33}
			p[at] = x
			margin(t, p, math.NaN())
		}
	}
}
