package census_test

import (
	"math"
	"slices"
	"testing"

	"blackboard/api"
	"blackboard/cells"
	"blackboard/census"
)

// P12.1: Shift. (What it refuses with Of is told beside Of.)

func TestShiftOfFreshPages(t *testing.T) {
	d := dice{21}
	for w := 1; w <= 4; w++ {
		for k := head/w + 1; k <= 64; k += 5 {
			g := api.Geo{Blocks: 4, Pages: 2, W: w, K: k}
			shifts(t, g, fresh(d.page(t, g)), 0)
		}
	}
}

func TestShiftOfAllCellsMovedAlike(t *testing.T) {
	d := dice{22}
	for _, g := range sizes {
		s := d.page(t, g)
		for _, by := range []complex128{0.5, -0.5, 0.25i, -0.75i, 0.5 + 0.25i, -0.875 + 0.5i, 0.125 - 0.75i, -0.5 - 0.5i} {
			p := fresh(s)
			for i := range p {
				p[i] += by
			}
			n := float64(len(p))
			shifts(t, g, p, complex(n*real(by), n*imag(by)))
		}
	}
}

// At the rim all may move outward, however far, and none is wrong.
func TestShiftOfTheRimMovedOutward(t *testing.T) {
	g := api.Geo{Blocks: 4, Pages: 2, W: 1, K: 28}
	p := fresh(woven(t, g, slices.Repeat(list{1023}, g.K)))
	for i := range g.K {
		p[i] += complex(float64(i), 900)
	}
	shifts(t, g, p, complex(27*28/2, 28*900))
}

func TestShiftOfSomeCells(t *testing.T) {
	d := dice{23}
	for _, g := range sizes {
		s := d.page(t, g)
		for range 20 {
			p, re, im := fresh(s), 0, 0
			for _, i := range d.places(d.below(len(p)+1), len(p)) {
				x, y := d.below(15)-7, d.below(15)-7
				p[i] += complex(float64(x)/8, float64(y)/8)
				re, im = re+x, im+y
			}
			shifts(t, g, p, complex(float64(re)/8, float64(im)/8))
		}
	}
}

// One cell alone tells its own way, whichever it is.
func TestShiftOfOneCell(t *testing.T) {
	d := dice{24}
	s := d.page(t, wide)
	for at := range s {
		for _, by := range []complex128{0.5 - 0.25i, 2, -6i, 40 - 62i} {
			p := fresh(s)
			p[at] += by
			shifts(t, wide, p, by)
		}
		p := fresh(s)
		p[at] = 0
		shifts(t, wide, p, -of(s[at]))
	}
}

// What is wrong is held against what was meant, not against what it is near to.
func TestShiftOfWhatIsWrong(t *testing.T) {
	d := dice{25}
	for _, g := range sizes {
		s := d.page(t, g)
		for n := 1; n <= most; n++ {
			p := fresh(s)
			for w := range g.W {
				for _, i := range d.places(n, length(g)) {
					wrong(g, p, s, w, []int{i}, 1+uint16(d.below(1023)))
				}
			}
			want := sumOf(p, s)
			shifts(t, g, p, want)
			for i := range p { // all of it a little more
				p[i] += -0.5 + 0.25i
			}
			shifts(t, g, p, want+complex(-float64(len(p))/2, float64(len(p))/4))
		}
	}
}

func TestShiftOfPointsAt0(t *testing.T) {
	d := dice{26}
	for _, g := range sizes {
		s := d.page(t, g)
		for n := 1; n <= most; n++ {
			for _, gone := range []int{1, n} { // the others are wrong
				p := fresh(s)
				for w := range g.W {
					places := d.places(n, length(g))
					without(g, p, w, places[:gone])
					wrong(g, p, s, w, places[gone:], 33)
				}
				shifts(t, g, p, sumOf(p, s))
			}
		}
	}
	g, s := middles(t)
	for _, zero := range noughts {
		p := fresh(s)
		p[3], p[7] = zero, zero // the nearest is the right one, and it is off all the same
		shifts(t, g, p, -2-2i)
	}
}

// A page that is within eight of another one is held against that.
func TestShiftOfOneThatIsNearerToAnother(t *testing.T) {
	d := dice{27}
	g, p, s, other := between(t, &d)
	if sumOf(p, s) == sumOf(p, other) {
		t.Fatal("the sums are alike")
	}
	shifts(t, g, p, sumOf(p, other))
}

func TestShiftOfCodewordsThatMakeWouldNotMake(t *testing.T) {
	d := dice{28}
	for _, g := range sizes {
		s := woven(t, g, make(list, g.W*g.K))
		shifts(t, g, fresh(s), 0)
		p := fresh(s)
		wrong(g, p, s, g.W-1, d.places(most, length(g)), 100)
		shifts(t, g, p, sumOf(p, s))
	}
}

// Whichever codeword can't be read, there is no sum, whatever the others are.
func TestShiftOfOneThatCannotBeRead(t *testing.T) {
	d := dice{29}
	for _, g := range sizes {
		s := d.page(t, g)
		for lost := range g.W {
			for _, others := range []int{0, 3, most} {
				p := fresh(s)
				for w := range g.W {
					if w != lost {
						wrong(g, p, s, w, d.places(others, length(g)), 9)
					}
				}
				places := d.places(most+1, length(g))
				wrong(g, p, s, lost, places, 5)
				unshifted(t, g, p, api.ErrData)
				without(g, p, lost, places)
				unshifted(t, g, p, api.ErrData)
				right := places[0]*g.W + lost
				p[right] = of(s[right])
				shifts(t, g, p, sumOf(p, s))
			}
		}
	}
}

func TestShiftOfABlankPage(t *testing.T) {
	for _, g := range sizes {
		unshifted(t, g, make([]complex128, cellsOf(g)), api.ErrData)
		unshifted(t, g, slices.Repeat(noughts, cellsOf(g))[:cellsOf(g)], api.ErrData)
	}
}

// Of cells that drift it is the sum of all their drifts, till a codeword can't be read any more.
func TestShiftOfCellsThatDrift(t *testing.T) {
	d := dice{30}
	for _, g := range sizes {
		s := d.page(t, g)
		c := cells.New(len(s))
		if err := c.Program(s, len(s)); err != api.OK {
			t.Fatal(err)
		}
		var sum complex128
		for n := 0; ; n++ {
			shifts(t, g, c.Sense(), sum)
			by := complex(float64(d.below(9)-3), float64(d.below(9)-5))
			if !c.Drift(d.below(len(s)), by) {
				t.Fatalf("the cell did not move by %v", by)
			}
			sum += by
			off := make([]int, g.W)
			for _, i := range c.Wrong() {
				off[i%g.W]++
			}
			if slices.Max(off) > most {
				unshifted(t, g, c.Sense(), api.ErrData)
				break
			}
		}
	}
}

// A point that is no number has no place that it is off from, part by part.
func TestShiftOfNoNumbers(t *testing.T) {
	d := dice{31}
	s := d.page(t, wide)
	p := fresh(s)
	p[5] = complex(math.NaN(), imag(p[5])+0.5)
	got, err := census.Shift(tables, wide, p)
	if err != api.OK || !math.IsNaN(real(got)) || imag(got) != 0.5 {
		t.Errorf("Shift = %v, %v", got, err)
	}
	p[5] = complex(real(of(s[5]))-0.25, math.Inf(-1))
	shifts(t, wide, p, complex(-0.25, math.Inf(-1)))
}
