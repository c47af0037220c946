package cells_test

import (
	"math"
	"slices"
	"testing"

	"blackboard/api"
	"blackboard/cells"
	"blackboard/point"
)

// The bounds and the states, in figures of their own.
const (
	most  = 65536
	step  = 62
	reach = 1000

	blank = 0
	whole = 1
	part  = 2
)

// nought is the symbol that a point at nought is nearest to: its own is 1 + 1i.
const nought = 16<<5 | 16

// dice throw what looks like any number, the same ones for the same seed.
type dice struct{ seed uint32 }

// below is a number from 0 to n - 1.
func (d *dice) below(n int) int {
	d.seed = d.seed*1664525 + 1013904223
	return int(d.seed>>8) % n
}

// symbols are n of them.
func (d *dice) symbols(n int) []uint16 {
	s := make([]uint16, n)
	for i := range s {
		s[i] = uint16(d.below(1024))
	}
	return s
}

// points are those of s.
func points(s []uint16) []complex128 {
	p := make([]complex128, len(s))
	for i, x := range s {
		p[i] = complex(float64(2*int(x>>5)-31), float64(2*int(x&31)-31))
	}
	return p
}

// page is one of n cells with these symbols, as keep has them.
func page(t *testing.T, s []uint16, keep int) *cells.Cells {
	t.Helper()
	c := cells.New(len(s))
	programmed(t, c, s, keep, api.OK)
	return c
}

// programmed tells what Program answers.
func programmed(t *testing.T, c *cells.Cells, s []uint16, keep int, want api.Errno) {
	t.Helper()
	if got := c.Program(s, keep); got != want {
		t.Errorf("Program(%d symbols, %d) = %v, want %v", len(s), keep, got, want)
	}
}

// drifted tells what Drift answers.
func drifted(t *testing.T, c *cells.Cells, i int, by complex128, want bool) {
	t.Helper()
	if got := c.Drift(i, by); got != want {
		t.Errorf("Drift(%d, %v) = %v", i, by, got)
	}
}

// says tells what State, Sense and Wrong answer.
func says(t *testing.T, c *cells.Cells, state int, sense []complex128, wrong ...int) {
	t.Helper()
	if got := c.State(); got != state {
		t.Errorf("State() = %d, want %d", got, state)
	}
	if got := c.Sense(); !slices.Equal(got, sense) {
		t.Errorf("Sense() = %v, want %v", got, sense)
	}
	if got := c.Wrong(); !slices.Equal(got, wrong) {
		t.Errorf("Wrong() = %v, want %v", got, wrong)
	}
}

// P8.1: New.

func TestNewIsBlankAndWithoutCharge(t *testing.T) {
	for n, want := range map[int]int{
		math.MinInt: 0, math.MinInt32: 0, -most: 0, -1: 0, 0: 0,
		1: 1, 2: 2, 25: 25, 320: 320, most - 1: most - 1, most: most,
		most + 1: most, 2 * most: most, 1<<32 + 3: most, math.MaxInt - 1: most, math.MaxInt: most,
	} {
		c := cells.New(n)
		says(t, c, blank, make([]complex128, want))
		programmed(t, c, make([]uint16, want+1), want, api.ErrSize)
		if want > 0 {
			programmed(t, c, make([]uint16, want-1), want, api.ErrSize)
		}
		programmed(t, c, make([]uint16, want), most, api.OK)
		says(t, c, whole, points(make([]uint16, want)))
		drifted(t, c, want-1, 1, want > 0)
		drifted(t, c, want, 1, false)
	}
}

func TestPagesHearNothingOfOneAnother(t *testing.T) {
	s := []uint16{1, 2, 3}
	a, b := cells.New(3), cells.New(3)
	programmed(t, a, s, 3, api.OK)
	drifted(t, a, 1, 2, true)
	says(t, b, blank, make([]complex128, 3))
	programmed(t, b, s, 1, api.OK)
	a.Erase()
	says(t, b, part, []complex128{point.Of(1), 0, 0})
	says(t, a, blank, make([]complex128, 3))
}

// P8.1: Program and what it refuses.

func TestProgramPutsThePointsOfAllSymbols(t *testing.T) {
	s := make([]uint16, 1024)
	for i := range s {
		s[i] = uint16(i * 5 % 1024) // each of them, 1023 too
	}
	says(t, page(t, s, len(s)), whole, points(s))
	for _, x := range s {
		says(t, page(t, []uint16{x}, 1), whole, []complex128{point.Of(x)})
	}
}

func TestProgramRefusesAPageThatIsNotBlank(t *testing.T) {
	s := []uint16{5, 6, 7}
	for _, keep := range []int{-1, 0, 1, 2, 3, 4} {
		c := page(t, s, 3)
		programmed(t, c, s, keep, api.ErrOrder)
		says(t, c, whole, points(s))

		c = page(t, s, 2)
		programmed(t, c, s, keep, api.ErrOrder) // also with what it lacks
		says(t, c, part, []complex128{point.Of(5), point.Of(6), 0})
	}
}

func TestProgramRefusesTooFewAndTooManySymbols(t *testing.T) {
	for _, n := range []int{1, 2, 25} {
		for _, many := range []int{0, 1, n - 1, n + 1, 2 * n, most, most + n} {
			if many == n {
				continue
			}
			c := cells.New(n)
			for _, keep := range []int{-1, 0, 1, n, many} {
				programmed(t, c, make([]uint16, many), keep, api.ErrSize)
				says(t, c, blank, make([]complex128, n))
			}
		}
		c := cells.New(n)
		programmed(t, c, nil, 0, api.ErrSize)
		says(t, c, blank, make([]complex128, n))
	}
}

func TestProgramRefusesSymbolsFrom1024On(t *testing.T) {
	for i := range 4 {
		for x, want := range map[uint16]api.Errno{0: api.OK, 1022: api.OK, 1023: api.OK, 1024: api.ErrArg, 1025: api.ErrArg, 2047: api.ErrArg, 32768: api.ErrArg, 65535: api.ErrArg} {
			for _, keep := range []int{math.MinInt, -1, 0, 1, 2, 3, 4, 5, math.MaxInt} { // also of one that is not kept
				s := []uint16{1, 2, 3, 4}
				s[i] = x
				c := cells.New(4)
				programmed(t, c, s, keep, want)
				if want != api.OK {
					says(t, c, blank, make([]complex128, 4))
				}
			}
		}
	}
}

func TestProgramRefusesInOrder(t *testing.T) {
	right, high := []uint16{1, 2}, []uint16{1, 1024}
	few, many := []uint16{1}, []uint16{1, 2, 3}
	fewHigh, manyHigh := []uint16{1024}, []uint16{1, 2, 1024}
	for _, keep := range []int{-1, 0, 1, 2, 3} {
		for _, s := range [][]uint16{nil, few, many, fewHigh, manyHigh} {
			programmed(t, cells.New(2), s, keep, api.ErrSize)
		}
		programmed(t, cells.New(2), high, keep, api.ErrArg)
		for _, before := range []int{1, 2} { // in part, whole
			for _, s := range [][]uint16{right, high, nil, few, many, fewHigh, manyHigh} {
				programmed(t, page(t, right, before), s, keep, api.ErrOrder)
			}
		}
	}
}

func TestARefusedProgramChangesNothing(t *testing.T) {
	s := []uint16{9, nought, 1023}
	bad := [][]uint16{nil, {9}, {9, 9, 9, 9}, {9, 9, 1024}, {1024, 9, 9}, {9, 9, 9}}

	c := cells.New(3) // blank: it is so still, and what is put there is right
	for _, x := range bad[:5] {
		if c.Program(x, 3) == api.OK {
			t.Errorf("Program(%v, 3) is taken", x)
		}
		says(t, c, blank, make([]complex128, 3))
		drifted(t, c, 0, 1, false)
	}
	programmed(t, c, s, 3, api.OK)
	says(t, c, whole, points(s))

	drifted(t, c, 0, 2, true) // whole: what moved, and what was put there, are as they were
	want := points(s)
	want[0] += 2
	for _, x := range bad {
		programmed(t, c, x, 3, api.ErrOrder)
		programmed(t, c, x, 0, api.ErrOrder)
		says(t, c, whole, want, 0)
	}
	drifted(t, c, 0, -2, true)
	says(t, c, whole, points(s))

	c = page(t, s, 1) // in part
	for _, x := range bad {
		programmed(t, c, x, 3, api.ErrOrder)
		programmed(t, c, x, 0, api.ErrOrder)
		says(t, c, part, []complex128{point.Of(9), 0, 0})
		drifted(t, c, 0, 1, false)
	}
}

// P8.1: keep.

func TestKeepIsHowManyAreProgrammed(t *testing.T) {
	d := &dice{seed: 8}
	for _, n := range []int{1, 2, 3, 25, 320} {
		for _, keep := range []int{math.MinInt, math.MinInt32, -n, -1, 0, 1, 2, n / 2, n - 2, n - 1, n, n + 1, 2 * n, most, 1<<32 + 1, math.MaxInt} {
			s := d.symbols(n)
			want, state := make([]complex128, n), blank
			for i := range n {
				if i < keep {
					want[i], state = points(s)[i], part
				}
			}
			if keep >= n {
				state = whole
			}
			says(t, page(t, s, keep), state, want)
		}
	}
}

func TestWhatIsInPartIsNeitherWrongNorMoved(t *testing.T) {
	s := []uint16{nought, 1, 2, nought}
	for keep := 1; keep <= 3; keep++ { // the points that lack are nought
		c := page(t, s, keep)
		want := slices.Concat(points(s[:keep]), make([]complex128, 4-keep))
		for i := -1; i <= 4; i++ {
			drifted(t, c, i, 2, false)
			drifted(t, c, i, 0, false)
		}
		says(t, c, part, want)
	}
}

func TestProgramAgainBehindOneThatKeptNothing(t *testing.T) {
	s, other := []uint16{1, 2, 3}, []uint16{1023, nought, 0}
	c := cells.New(3)
	for _, keep := range []int{0, -1, math.MinInt, 0} {
		programmed(t, c, s, keep, api.OK)
		says(t, c, blank, make([]complex128, 3))
		drifted(t, c, 0, 1, false)
	}
	programmed(t, c, other, 3, api.OK)
	says(t, c, whole, points(other))

	c = cells.New(3)
	programmed(t, c, s, 0, api.OK)
	programmed(t, c, other, 2, api.OK)
	says(t, c, part, []complex128{31 + 31i, 1 + 1i, 0})
}

// P8.1: Erase.

func TestEraseMakesBlank(t *testing.T) {
	s, other := []uint16{1, 2, 3}, []uint16{1023, nought, 0}
	for keep := -1; keep <= 4; keep++ {
		c := page(t, s, keep)
		c.Drift(1, 2-2i)
		c.Drift(2, 62)
		c.Erase()
		says(t, c, blank, make([]complex128, 3))
		drifted(t, c, 1, 2, false)
		c.Erase() // once more, of a blank one
		says(t, c, blank, make([]complex128, 3))

		programmed(t, c, other, 2, api.OK) // what was there is nowhere any more
		says(t, c, part, []complex128{31 + 31i, 1 + 1i, 0})
		c.Erase()
		programmed(t, c, other, 3, api.OK)
		says(t, c, whole, points(other))
		drifted(t, c, 1, 2, true)
		says(t, c, whole, []complex128{31 + 31i, 3 + 1i, -31 - 31i}, 1)
	}
}

func TestEraseTakesMovesAway(t *testing.T) {
	c := page(t, []uint16{1023}, 1)
	for range 15 {
		drifted(t, c, 0, 62, true)
	}
	drifted(t, c, 0, 62, false)
	c.Erase()
	programmed(t, c, []uint16{1023}, 1, api.OK)
	says(t, c, whole, []complex128{31 + 31i})
	drifted(t, c, 0, 62, true)
}

// P8.1: Drift.

func TestDriftMovesOneCell(t *testing.T) {
	s := []uint16{0, 33, nought, 1023}
	for i := range s {
		for _, by := range []complex128{0, 1, -1, 1i, -1i, 2 - 1i, 62 + 62i, -62 - 62i, 62 - 62i, -17 + 40i} {
			c, want := page(t, s, 4), points(s)
			drifted(t, c, i, by, true)
			want[i] += by
			if got := c.Sense(); !slices.Equal(got, want) {
				t.Errorf("Drift(%d, %v): Sense() = %v, want %v", i, by, got, want)
			}
		}
	}
}

func TestDriftsAddUp(t *testing.T) {
	c := page(t, []uint16{7, 8}, 2)
	want, d := points([]uint16{7, 8}), &dice{seed: 80}
	for range 1000 {
		i := d.below(2)
		by := complex(float64(d.below(9)-4), float64(d.below(9)-4))
		drifted(t, c, i, by, true)
		want[i] += by
		if got := c.Sense(); !slices.Equal(got, want) {
			t.Fatalf("Drift(%d, %v): Sense() = %v, want %v", i, by, got, want)
		}
	}
}

func TestDriftOnlyOfAWholePage(t *testing.T) {
	s := []uint16{1, 2}
	erased := page(t, s, 2)
	erased.Erase()
	for _, c := range []*cells.Cells{cells.New(2), page(t, s, 0), erased} {
		for i := range 2 {
			drifted(t, c, i, 1, false)
			drifted(t, c, i, 0, false)
		}
		says(t, c, blank, make([]complex128, 2))
	}
	c := page(t, s, 1)
	drifted(t, c, 0, 1, false)
	says(t, c, part, []complex128{point.Of(1), 0})
	c = page(t, s, 2)
	drifted(t, c, 0, 1, true)
}

func TestDriftOnlyOfCellsThatThereAre(t *testing.T) {
	for _, n := range []int{1, 2, 25} {
		s := make([]uint16, n)
		c := page(t, s, n)
		for _, i := range []int{math.MinInt, math.MinInt32, -n, -1, n, n + 1, most, 1 << 32, 1<<32 + 1, math.MaxInt} {
			drifted(t, c, i, 1, false)
			drifted(t, c, i, 0, false)
		}
		says(t, c, whole, points(s))
		want := points(s)
		drifted(t, c, 0, 1, true)
		want[0]++
		drifted(t, c, n-1, -1i, true)
		want[n-1] -= 1i
		if got := c.Sense(); !slices.Equal(got, want) {
			t.Errorf("Sense() = %v, want %v", got, want)
		}
	}
}

func TestDriftOnlyByWholeNumbersUpTo62(t *testing.T) {
	inf, nan := math.Inf(1), math.NaN()
	for _, x := range []float64{
		-63, 63, -64, 64, -1000, 1000, 1e9, -1e9, 1 << 32, 1<<32 + 2, 1 << 53, 1 << 63, 1<<64 + 4096, -1 << 63, 1e300, -1e300, math.MaxFloat64, -math.MaxFloat64,
		0.5, -0.5, 1.5, -1.5, 61.5, -61.5, 62.5, -62.5, 0.1, 1e-9, math.SmallestNonzeroFloat64, -math.SmallestNonzeroFloat64,
		math.Nextafter(62, 63), math.Nextafter(62, 61), math.Nextafter(-62, -63), math.Nextafter(-62, -61), math.Nextafter(1, 2), math.Nextafter(1, 0),
		inf, -inf, nan, -nan,
	} {
		c := page(t, []uint16{nought}, 1)
		for _, by := range []complex128{complex(x, 0), complex(0, x), complex(x, 1), complex(1, x), complex(x, x), complex(x, -x)} {
			drifted(t, c, 0, by, false)
			says(t, c, whole, []complex128{1 + 1i})
		}
	}
	for n := -step; n <= step; n++ {
		x := float64(n)
		for _, by := range []complex128{complex(x, 0), complex(0, x), complex(x, x), complex(x, -x), complex(x, step), complex(-step, x)} {
			c := page(t, []uint16{nought}, 1)
			drifted(t, c, 0, by, true)
			if got := c.Sense(); got[0] != 1+1i+by {
				t.Errorf("Drift(0, %v): Sense() = %v", by, got)
			}
		}
	}
}

func TestDriftByNoughtOfEitherSign(t *testing.T) {
	c := page(t, []uint16{nought}, 1)
	less := math.Copysign(0, -1)
	for _, by := range []complex128{0, complex(less, 0), complex(0, less), complex(less, less)} {
		drifted(t, c, 0, by, true)
		says(t, c, whole, []complex128{1 + 1i})
	}
	drifted(t, c, 0, -1-1i, true)
	drifted(t, c, 0, complex(less, less), true)
	if got := c.Sense()[0]; math.Signbit(real(got)) || math.Signbit(imag(got)) {
		t.Errorf("Sense() = %v: a nought below 0", got)
	}
}

// sides are the ways out: the symbol that lies there at the edge, and one step that way.
var sides = []struct {
	s  uint16
	by complex128
}{
	{31 << 5, 1}, {31, 1i}, {1023, 1 + 1i}, {0, -1}, {0, -1i}, {0, -1 - 1i}, {31 << 5, 1 - 1i}, {31, -1 + 1i},
}

// times is n steps at once.
func times(n int, by complex128) complex128 {
	return complex(float64(n)*real(by), float64(n)*imag(by))
}

func TestDriftsEndAt1000(t *testing.T) {
	for _, x := range sides {
		c, at := page(t, []uint16{x.s}, 1), point.Of(x.s)
		for range 15 { // from 31 to 961
			drifted(t, c, 0, times(step, x.by), true)
		}
		at += times(15*step, x.by)
		for n := 40; n <= step; n++ { // to 1001 and more
			drifted(t, c, 0, times(n, x.by), false)
			says(t, c, whole, []complex128{at})
		}
		drifted(t, c, 0, times(39, x.by), true) // to just 1000
		at += times(39, x.by)
		says(t, c, whole, []complex128{at})
		if max(math.Abs(real(at)), math.Abs(imag(at))) != reach {
			t.Fatalf("at %v", at)
		}
		for n := 1; n <= step; n++ {
			drifted(t, c, 0, times(n, x.by), false)
			says(t, c, whole, []complex128{at})
		}
		drifted(t, c, 0, 0, true)
		drifted(t, c, 0, times(-1, x.by), true) // and back
		drifted(t, c, 0, times(2, x.by), false)
		drifted(t, c, 0, times(1, x.by), true)
		drifted(t, c, 0, times(-step, x.by), true)
		says(t, c, whole, []complex128{at + times(-step, x.by)})
	}
}

func TestDriftBeyond1000InOnePartMovesNeither(t *testing.T) {
	for _, x := range sides[:2] { // up, in one part alone
		aside := complex(imag(x.by), real(x.by))
		for _, sign := range []int{1, -1} {
			c, by := page(t, []uint16{nought}, 1), times(sign, x.by)
			for range 16 { // from 1 to 993 or -991
				drifted(t, c, 0, times(step, by), true)
			}
			at := 1 + 1i + times(16*step, by)
			for _, beside := range []complex128{aside, times(-1, aside), times(step, aside), times(-step, aside)} {
				drifted(t, c, 0, times(10, by)+beside, false)
				says(t, c, whole, []complex128{at}, 0)
			}
			drifted(t, c, 0, times(7, by)+aside, true)
			says(t, c, whole, []complex128{at + times(7, by) + aside}, 0)
		}
	}
}

func TestDriftOfOneCellHangsNotOnAnother(t *testing.T) {
	c := page(t, []uint16{1023, 1023}, 2)
	for range 15 {
		drifted(t, c, 0, 62+62i, true)
	}
	drifted(t, c, 0, 39+39i, true)
	drifted(t, c, 0, 1, false)
	drifted(t, c, 1, 1, true)
	says(t, c, whole, []complex128{1000 + 1000i, 32 + 31i})
}

// P8.1: Wrong.

func TestWrongOfAPointThatIsJustNought(t *testing.T) {
	// The nearest of nought is the symbol of 1 + 1i: also where that was put there.
	for s, by := range map[uint16]complex128{nought: -1 - 1i, 15<<5 | 15: 1 + 1i, 15<<5 | 16: 1 - 1i, 16<<5 | 15: -1 + 1i, 0: 31 + 31i, 1023: -31 - 31i} {
		c := page(t, []uint16{s}, 1)
		drifted(t, c, 0, by, true)
		says(t, c, whole, []complex128{0}, 0)
		drifted(t, c, 0, -by, true)
		says(t, c, whole, []complex128{point.Of(s)})
	}
}

func TestNotWrongWithOnePartAtNought(t *testing.T) {
	c := page(t, []uint16{nought}, 1)
	drifted(t, c, 0, -1, true)
	says(t, c, whole, []complex128{1i})
	drifted(t, c, 0, 1-1i, true)
	says(t, c, whole, []complex128{1})
	drifted(t, c, 0, -1, true)
	says(t, c, whole, []complex128{0}, 0)
}

func TestWrongJustAtTheBorder(t *testing.T) {
	for s := range uint16(1024) {
		for _, b := range []struct {
			by    complex128
			wrong bool // where there is a symbol that way
		}{
			{-1, false}, {-1i, false}, {1, true}, {1i, true},
			{-2, true}, {-2i, true}, {2, true}, {2i, true},
		} {
			c := page(t, []uint16{s}, 1)
			drifted(t, c, 0, b.by, true)
			up := point.Grid(point.Of(s) + 2*b.by/complex(math.Abs(real(b.by))+math.Abs(imag(b.by)), 0))
			want := []int(nil)
			if b.wrong && up {
				want = []int{0}
			}
			says(t, c, whole, []complex128{point.Of(s) + b.by}, want...)
		}
	}
}

func TestBeyondTheOutermostNothingIsWrong(t *testing.T) {
	for _, x := range sides {
		c := page(t, []uint16{x.s}, 1)
		for range 969 { // from 31 to 1000
			drifted(t, c, 0, x.by, true)
		}
		says(t, c, whole, []complex128{point.Of(x.s) + times(969, x.by)})
	}
}

func TestMovedByTwoItIsWrong(t *testing.T) {
	c := page(t, []uint16{0}, 1)
	drifted(t, c, 0, 2, true)
	says(t, c, whole, []complex128{-29 - 31i}, 0)
	if got := point.Slice(c.Sense()[0]); got != 32 {
		t.Errorf("it is %d, want 32", got)
	}
}

func TestNotWrongAnyMoreWhenMovedBack(t *testing.T) {
	c := page(t, []uint16{100, 200, 300}, 3)
	for _, by := range []complex128{2, -2, 2i, -2i, 62 - 62i, 20 + 13i} {
		drifted(t, c, 1, by, true)
		says(t, c, whole, []complex128{point.Of(100), point.Of(200) + by, point.Of(300)}, 1)
		drifted(t, c, 1, -by, true)
		says(t, c, whole, points([]uint16{100, 200, 300}))
	}
	drifted(t, c, 1, 2, true) // and by another way
	drifted(t, c, 1, 2i, true)
	drifted(t, c, 1, -2-2i, true)
	says(t, c, whole, points([]uint16{100, 200, 300}))
}

func TestNotWrongWhatIsNearAgainAndWrongWhatIsAnother(t *testing.T) {
	c := page(t, []uint16{nought}, 1)
	drifted(t, c, 0, 10, true)
	says(t, c, whole, []complex128{11 + 1i}, 0)
	drifted(t, c, 0, -10-1i, true) // beside where it was
	says(t, c, whole, []complex128{1})
	drifted(t, c, 0, 2+1i, true) // just at another's point
	says(t, c, whole, []complex128{3 + 1i}, 0)
}

func TestWrongTellsSeveralRising(t *testing.T) {
	d := &dice{seed: 81}
	s := d.symbols(40)
	for i := range s {
		s[i] = s[i]&^(1<<5) | 8<<5 // far from each edge
	}
	c, sense := page(t, s, 40), points(s)
	var want []int
	for _, i := range []int{39, 3, 17, 0, 25, 4, 38, 16} {
		drifted(t, c, i, 4, true)
		sense[i] += 4
		want = append(want, i)
		slices.Sort(want)
		says(t, c, whole, sense, want...)
	}
	for _, i := range []int{4, 39, 0} {
		drifted(t, c, i, -4, true)
		sense[i] -= 4
		want = slices.DeleteFunc(want, func(k int) bool { return k == i })
		says(t, c, whole, sense, want...)
	}
}

func TestWrongOfAllCells(t *testing.T) {
	s := slices.Repeat([]uint16{nought}, 320)
	c, want := page(t, s, 320), []int(nil)
	for i := range s {
		drifted(t, c, i, -1-1i, true)
		want = append(want, i)
	}
	says(t, c, whole, make([]complex128, 320), want...) // all nought, and State tells that it is not blank
}

// What holds everywhere: lists.

func TestProgramKeepsNotWhatIsHandedIn(t *testing.T) {
	for keep := range 5 {
		room := []uint16{1, 2, 3, 4, 5, 6}
		s := room[:4]
		c := page(t, s, keep)
		if !slices.Equal(room, []uint16{1, 2, 3, 4, 5, 6}) {
			t.Errorf("Program has changed its symbols: %v", room)
		}
		sense, state := c.Sense(), c.State()
		for i := range room {
			room[i] = 900
		}
		says(t, c, state, sense) // nothing is Wrong, either
	}
}

func TestARefusedProgramLeavesWhatIsHandedIn(t *testing.T) {
	c := page(t, []uint16{1, 2}, 2)
	for _, s := range [][]uint16{{3, 4}, {3, 1024}, {3, 4, 5}, {3}} {
		kept := slices.Clone(s)
		c.Program(s, 1)
		cells.New(2).Program(s, 1)
		if !slices.Equal(s, kept) {
			t.Errorf("Program has changed %v to %v", kept, s)
		}
	}
}

func TestSenseIsARowOfItsOwnEachTime(t *testing.T) {
	for keep := 0; keep <= 3; keep++ {
		c := page(t, []uint16{1, 2, 3}, keep)
		state, a, b := c.State(), c.Sense(), c.Sense()
		kept := slices.Clone(b)
		for i := range a[:cap(a)] {
			a[:cap(a)][i] = 500 - 500i
		}
		if !slices.Equal(b, kept) {
			t.Errorf("two answers of Sense share their memory: %v", b)
		}
		says(t, c, state, kept)
	}
}

func TestSenseIsNotMovedLater(t *testing.T) {
	c := page(t, []uint16{1, 2, 3}, 3)
	a := c.Sense()
	drifted(t, c, 1, 2, true)
	b := c.Sense()
	c.Erase()
	if !slices.Equal(a, points([]uint16{1, 2, 3})) {
		t.Errorf("what was sensed has moved: %v", a)
	}
	if want := []complex128{point.Of(1), point.Of(2) + 2, point.Of(3)}; !slices.Equal(b, want) {
		t.Errorf("what was sensed is %v, want %v", b, want)
	}
}

func TestWrongIsAListOfItsOwnEachTime(t *testing.T) {
	c := page(t, []uint16{1, 2, 3}, 3)
	for i := range 3 {
		drifted(t, c, i, 4i, true)
	}
	sense, a, b := c.Sense(), c.Wrong(), c.Wrong()
	for i := range a[:cap(a)] {
		a[:cap(a)][i] = 77
	}
	if !slices.Equal(b, []int{0, 1, 2}) {
		t.Errorf("two answers of Wrong share their memory: %v", b)
	}
	says(t, c, whole, sense, 0, 1, 2)
	drifted(t, c, 0, -4i, true)
	if !slices.Equal(b, []int{0, 1, 2}) {
		t.Errorf("what was Wrong has changed: %v", b)
	}
}

func TestWhatIsAskedChangesNothing(t *testing.T) {
	s := []uint16{1, nought, 3}
	for keep := 0; keep <= 3; keep++ {
		c := page(t, s, keep)
		state, sense := c.State(), c.Sense()
		for range 5 {
			says(t, c, state, sense)
		}
	}
}

// What holds everywhere: a page without cells, and none at all.

func TestNewOfNoCells(t *testing.T) {
	for _, n := range []int{0, -1, math.MinInt} {
		c := cells.New(n)
		says(t, c, blank, nil)
		programmed(t, c, []uint16{0}, 1, api.ErrSize)
		programmed(t, c, []uint16{1024}, 1, api.ErrSize)
		says(t, c, blank, nil)
		for _, keep := range []int{0, -1, math.MinInt} { // 0 is said first, though 0 is also all of them
			programmed(t, c, nil, keep, api.OK)
			says(t, c, blank, nil)
		}
		c.Erase()
		for _, keep := range []int{1, 2, math.MaxInt} {
			programmed(t, c, []uint16{}, keep, api.OK)
			says(t, c, whole, nil)
			programmed(t, c, nil, keep, api.ErrOrder)
			programmed(t, c, []uint16{0}, keep, api.ErrOrder)
			for i := -1; i <= 1; i++ {
				drifted(t, c, i, 0, false)
				drifted(t, c, i, 1, false)
			}
			says(t, c, whole, nil)
			c.Erase()
			says(t, c, blank, nil)
		}
	}
}

func TestANilPageAnswersZeroValues(t *testing.T) {
	var c *cells.Cells
	for _, s := range [][]uint16{nil, {}, {1}, {1024}, make([]uint16, most)} {
		for _, keep := range []int{-1, 0, 1, 2, most} {
			programmed(t, c, s, keep, api.ErrArg)
		}
	}
	c.Erase()
	for i := -1; i <= 1; i++ {
		for _, by := range []complex128{0, 1, 63, complex(math.NaN(), 0)} {
			drifted(t, c, i, by, false)
		}
	}
	says(t, c, blank, nil)
}

// What holds everywhere: an answer hangs on the calls that made and changed the page. Held against one that keeps whole numbers.

// model is a page as the chapter says it, in whole numbers of its own.
type model struct {
	re, im, put []int
	state       int
}

func (m *model) program(s []uint16, keep int) api.Errno {
	if m.state != blank {
		return api.ErrOrder
	}
	if len(s) != len(m.re) {
		return api.ErrSize
	}
	for _, x := range s {
		if x > 1023 {
			return api.ErrArg
		}
	}
	for i, x := range s {
		if i < keep {
			m.re[i], m.im[i], m.put[i] = 2*int(x/32)-31, 2*int(x%32)-31, int(x)
		}
	}
	if keep >= len(s) && keep > 0 {
		m.state = whole
	} else if keep > 0 {
		m.state = part
	}
	return api.OK
}

func (m *model) erase() {
	n := len(m.re)
	*m = model{re: make([]int, n), im: make([]int, n), put: make([]int, n)}
}

func (m *model) drift(i, re, im int) bool {
	if m.state != whole || i < 0 || i >= len(m.re) || max(re, -re, im, -im) > step {
		return false
	}
	re, im = re+m.re[i], im+m.im[i]
	if max(re, -re, im, -im) > reach {
		return false
	}
	m.re[i], m.im[i] = re, im
	return true
}

func (m *model) sense() []complex128 {
	var p []complex128
	for i := range m.re {
		p = append(p, complex(float64(m.re[i]), float64(m.im[i])))
	}
	return p
}

// side is the five bits that a part is nearest to: it goes up from each even number on.
func side(x int) int {
	return min(max((x+32)>>1, 0), 31)
}

func (m *model) wrong() []int {
	var l []int
	for i := range m.re {
		if m.state == whole && (m.re[i] == 0 && m.im[i] == 0 || 32*side(m.re[i])+side(m.im[i]) != m.put[i]) {
			l = append(l, i)
		}
	}
	return l
}

func TestCallsInAnyOrder(t *testing.T) {
	for seed := range uint32(60) {
		d := &dice{seed: seed}
		n := d.below(5)
		c, m := cells.New(n), &model{}
		m.re, m.im, m.put = make([]int, n), make([]int, n), make([]int, n)
		far := 2 // small moves about nought, or great ones from anywhere
		if seed%2 == 0 {
			far = 64
		}
		for range 400 {
			switch k := d.below(20); {
			case k == 0:
				c.Erase()
				m.erase()
			case k < 3:
				s, keep := d.symbols(n), d.below(n+3)-1
				for i := range s {
					if far == 2 {
						s[i] = nought - uint16(i%2)*33 // 1 + 1i and -1 - 1i
					}
				}
				if d.below(8) == 0 && n > 0 {
					s[d.below(n)] = 1024
				}
				if d.below(8) == 0 {
					s = append(s, 1)
				}
				programmed(t, c, s, keep, m.program(s, keep))
			default:
				i, re, im := d.below(n+2)-1, d.below(2*far+1)-far, d.below(2*far+1)-far
				drifted(t, c, i, complex(float64(re), float64(im)), m.drift(i, re, im))
			}
			says(t, c, m.state, m.sense(), m.wrong()...)
		}
		if t.Failed() {
			t.Fatalf("seed %d", seed)
		}
	}
}
