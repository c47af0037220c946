package point_test

import (
	"math"
	"math/bits"
	"testing"

	"blackboard/point"
)

const symbols = 1024

var (
	inf = math.Inf(1)
	nan = math.NaN()
)

// same tells whether two numbers are one, or both none.
func same(a, b float64) bool {
	return a == b || math.IsNaN(a) && math.IsNaN(b)
}

// P1.1: Of.

func TestOfTellsThePointOfASymbol(t *testing.T) {
	for _, c := range []struct {
		s    uint16
		want complex128
	}{
		{0, -31 - 31i},
		{1, -31 - 29i},
		{31, -31 + 31i},
		{32, -29 - 31i},
		{15<<5 | 16, -1 + 1i},
		{16<<5 | 15, 1 - 1i},
		{31 << 5, 31 - 31i},
		{1023, 31 + 31i},
	} {
		if got := point.Of(c.s); got != c.want {
			t.Errorf("Of(%d) = %v, want %v", c.s, got, c.want)
		}
	}
}

func TestOfCountsUpByTwosInBothParts(t *testing.T) {
	s := uint16(0)
	for re := -31.0; re <= 31; re += 2 {
		for im := -31.0; im <= 31; im += 2 {
			if got := point.Of(s); got != complex(re, im) {
				t.Errorf("Of(%d) = %v, want %v", s, got, complex(re, im))
			}
			s++
		}
	}
	if s != symbols {
		t.Fatalf("%d points, want %d", s, symbols)
	}
}

func TestOfTakesSymbolsModulo1024(t *testing.T) {
	for s := range 1 << 16 {
		if got, want := point.Of(uint16(s)), point.Of(uint16(s%symbols)); got != want {
			t.Fatalf("Of(%d) = %v, want %v", s, got, want)
		}
	}
}

// P1.1: Slice.

// sides are parts of points, and the five bits that each is sliced to.
var sides = []struct {
	x    float64
	want uint16
}{
	// The levels themselves, and what is near to one.
	{-31, 0}, {-29, 1}, {-1, 15}, {1, 16}, {29, 30}, {31, 31},
	{-31.5, 0}, {-28.25, 1}, {0.25, 16}, {1.75, 16}, {30.5, 31},
	// Between two levels it is the upper one.
	{-30, 1}, {-2, 15}, {0, 16}, {math.Copysign(0, -1), 16}, {2, 17}, {28, 30}, {30, 31},
	// A little to either side of it: as near as float64 tells 16 and half of it apart.
	{-30.001, 0}, {-29.999, 1}, {-0.001, 15}, {0.001, 16}, {1.999, 16}, {2.001, 17}, {29.999, 30},
	{-1e-14, 15}, {2 - 1e-14, 16},
	{-1e-17, 16}, {-math.SmallestNonzeroFloat64, 16}, {math.Nextafter(2, 0), 17}, {math.Nextafter(30, 0), 31},
	{math.Nextafter(-30, -31), 0},
	// Beyond the border, near it and far off.
	{-32, 0}, {math.Nextafter(-32, -33), 0}, {-33, 0}, {-34, 0}, {-1000, 0}, {-1e300, 0}, {-math.MaxFloat64, 0}, {-inf, 0},
	{32, 31}, {33, 31}, {34, 31}, {1000, 31}, {1e19, 31}, {1e300, 31}, {math.MaxFloat64, 31}, {inf, 31},
	{131072, 31}, {-131072, 0}, // what a number of 16 bits would make 16 of
	// What is no number.
	{nan, 0}, {-nan, 0},
}

func TestSliceTellsTheNearestInEachPartByItself(t *testing.T) {
	for _, re := range sides {
		for _, im := range sides {
			p := complex(re.x, im.x)
			if got, want := point.Slice(p), re.want<<5|im.want; got != want {
				t.Errorf("Slice(%v) = %d (%d and %d), want %d (%d and %d)", p, got, got>>5, got&31, want, re.want, im.want)
			}
		}
	}
}

func TestSliceUndoesOfAndBearsMovesBelowOne(t *testing.T) {
	for s := range uint16(symbols) {
		p := point.Of(s)
		for _, by := range []complex128{0, 0.99, -0.99, 0.99i, -0.99i, 0.99 - 0.99i, -1, -1i, -1 - 1i} {
			if got := point.Slice(p + by); got != s {
				t.Errorf("Slice(%v) = %d, want %d", p+by, got, s)
			}
		}
	}
}

func TestSliceGoesOverAtOneAbove(t *testing.T) {
	for s := range uint16(symbols) {
		p := point.Of(s)
		re, im := min(s>>5+1, 31), min(s&31+1, 31)
		if got, want := point.Slice(p+1), re<<5|s&31; got != want {
			t.Errorf("Slice(%v) = %d, want %d", p+1, got, want)
		}
		if got, want := point.Slice(p+1i), s&^31|im; got != want {
			t.Errorf("Slice(%v) = %d, want %d", p+1i, got, want)
		}
	}
}

func TestSliceLeavesNoPointNearer(t *testing.T) {
	for re := -35.0; re <= 35; re += 0.875 {
		for im := -35.0; im <= 35; im += 0.875 {
			p := complex(re, im)
			o := p - point.Of(point.Slice(p))
			for s := range uint16(symbols) {
				q := p - point.Of(s)
				if math.Abs(real(q)) < math.Abs(real(o)) || math.Abs(imag(q)) < math.Abs(imag(o)) {
					t.Fatalf("Slice(%v) = %d, and %d is nearer", p, point.Slice(p), s)
				}
			}
		}
	}
}

// P1.1: Grid.

func TestGridHoldsForJustThePoints(t *testing.T) {
	points := 0
	for re := -70; re <= 70; re++ {
		for im := -70; im <= 70; im++ {
			// Halves: whole numbers and those between them.
			p := complex(float64(re)/2, float64(im)/2)
			want := onSide(re) && onSide(im)
			if got := point.Grid(p); got != want {
				t.Errorf("Grid(%v) = %v, want %v", p, got, want)
			}
			if want {
				points++
			}
		}
	}
	if points != symbols {
		t.Errorf("%d points, want %d", points, symbols)
	}
}

// onSide tells whether half of n is an odd whole number from -31 to 31.
func onSide(n int) bool {
	return n%2 == 0 && n/2%2 != 0 && n >= -62 && n <= 62
}

func TestGridIsFalseBesideAPoint(t *testing.T) {
	for s := range uint16(symbols) {
		re, im := real(point.Of(s)), imag(point.Of(s))
		for _, to := range []float64{inf, -inf} {
			if p := complex(math.Nextafter(re, to), im); point.Grid(p) {
				t.Errorf("Grid(%v) is true", p)
			}
			if p := complex(re, math.Nextafter(im, to)); point.Grid(p) {
				t.Errorf("Grid(%v) is true", p)
			}
		}
	}
}

func TestGridIsFalseOfWhatIsFarOffOrNoNumber(t *testing.T) {
	for _, x := range []float64{0, -33, 33, 1023, -1e300, 1e300, 1<<53 - 1, math.MaxFloat64, inf, -inf, nan} {
		for _, p := range []complex128{complex(x, 1), complex(1, x), complex(x, x)} {
			if point.Grid(p) {
				t.Errorf("Grid(%v) is true", p)
			}
		}
	}
}

// P1.1: Off.

func TestOffTellsPLessThePoint(t *testing.T) {
	for _, c := range []struct {
		s    uint16
		p    complex128
		want complex128
	}{
		{0, 1, 32 + 31i},
		{0, -31 - 31i, 0},
		{1023, 0, -31 - 31i},
		{1, -31 - 29.5i, -0.5i},
		{32, -29.25 - 31i, -0.25},
		{1024, -31 - 30i, 1i},
		{65535, 33 + 30i, 2 - 1i},
		{0, 1000 - 1000i, 1031 - 969i},
	} {
		if got := point.Off(c.s, c.p); got != c.want {
			t.Errorf("Off(%d, %v) = %v, want %v", c.s, c.p, got, c.want)
		}
	}
}

func TestOffTellsWhichWayASymbolMoved(t *testing.T) {
	for s := range 1 << 16 {
		p := point.Of(uint16(s % symbols))
		for _, by := range []complex128{0, 2, -2i, 62 - 62i, 0.5 + 0.25i} {
			if got := point.Off(uint16(s), p+by); got != by {
				t.Fatalf("Off(%d, %v) = %v, want %v", s, p+by, got, by)
			}
		}
	}
}

func TestOffTakesEachPartByItself(t *testing.T) {
	for _, x := range []float64{inf, -inf, nan} {
		if got := point.Off(0, complex(x, 1)); !same(real(got), x) || imag(got) != 32 {
			t.Errorf("Off(0, %v) = %v", complex(x, 1), got)
		}
		if got := point.Off(0, complex(1, x)); real(got) != 32 || !same(imag(got), x) {
			t.Errorf("Off(0, %v) = %v", complex(1, x), got)
		}
	}
}

// P1.2: Gray.

func TestGrayXorsEachFiveBitsWithThemselvesShifted(t *testing.T) {
	for _, c := range []struct{ s, want uint16 }{
		{0, 0}, {1, 1}, {2, 3}, {3, 2}, {4, 6}, {7, 4}, {16, 24}, {31, 16},
		{32, 32}, // the lowest of the upper bits does not go down into the lower ones
		{64, 96}, {33, 33}, {31<<5 | 31, 16<<5 | 16}, {16<<5 | 2, 24<<5 | 3},
	} {
		if got := point.Gray(c.s); got != c.want {
			t.Errorf("Gray(%d) = %d, want %d", c.s, got, c.want)
		}
	}
}

func TestGrayTakesSymbolsModulo1024(t *testing.T) {
	for s := range 1 << 16 {
		if got, want := point.Gray(uint16(s)), point.Gray(uint16(s%symbols)); got != want {
			t.Fatalf("Gray(%d) = %d, want %d", s, got, want)
		}
	}
}

func TestGrayTellsEachSymbolOnce(t *testing.T) {
	var seen [symbols]bool
	for s := range uint16(symbols) {
		g := point.Gray(s)
		if g >= symbols || seen[g] {
			t.Fatalf("Gray(%d) = %d: beyond the symbols, or told twice", s, g)
		}
		seen[g] = true
	}
}

func TestGrayOfPointsBesideOneAnotherDiffersInOneBit(t *testing.T) {
	for s := range uint16(symbols) {
		for _, by := range []complex128{2, 2i} {
			p := point.Of(s) + by
			if !point.Grid(p) {
				continue
			}
			n := point.Slice(p)
			if x := point.Gray(s) ^ point.Gray(n); bits.OnesCount16(x) != 1 {
				t.Errorf("Gray of %d and of %d differ in %d bits", s, n, bits.OnesCount16(x))
			}
		}
	}
}
