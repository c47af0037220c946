package census_test

import (
	"math"
	"slices"
	"testing"

	"blackboard/api"
	"blackboard/census"
	"blackboard/code"
	"blackboard/field"
	"blackboard/frame"
)

// P12.1: what Of and Shift refuse.

func TestGeometriesThatMayNotBeAreRefused(t *testing.T) {
	for _, g := range never {
		for _, n := range []int{0, 1, 24, 72, 107, 108, 109, 320} { // also such as would be too few or too many, and blank
			refused(t, g, make([]complex128, n), api.ErrArg)
			refused(t, g, fresh(make(list, n)), api.ErrArg)
		}
		refused(t, g, nil, api.ErrArg)
	}
}

func TestPointsOfAnotherNumberAreRefused(t *testing.T) {
	d := dice{1}
	for _, g := range sizes {
		n := cellsOf(g)
		p := fresh(append(d.page(t, g), d.symbols(2*n)...))
		for _, many := range []int{0, 1, n - g.W, n - 1, n + 1, n + g.W, 2 * n, 3 * n} {
			refused(t, g, p[:many], api.ErrSize)
			refused(t, g, make([]complex128, many, 3*n), api.ErrSize) // blank, and bad in all codewords
		}
		refused(t, g, nil, api.ErrSize)
		refused(t, g, []complex128{}, api.ErrSize)
		counts(t, g, p[:n], make([]int, g.W)...)
		shifts(t, g, p[:n], 0)
	}
}

// P12.1: Of, wrong symbols.

func TestOfFreshPages(t *testing.T) {
	d := dice{2}
	for w := 1; w <= 4; w++ {
		for k := head/w + 1; k <= 64; k++ {
			g := api.Geo{Blocks: 4, Pages: 2, W: w, K: k}
			counts(t, g, fresh(d.page(t, g)), make([]int, w)...)
		}
	}
}

// Blocks and pages have no part in how well one is read.
func TestOfDevicesOfAnySize(t *testing.T) {
	d := dice{3}
	s := d.page(t, wide)
	p := fresh(s)
	wrong(wide, p, s, 1, []int{7}, 5)
	for _, blocks := range []int{4, 64} {
		for _, pages := range []int{2, 32} {
			counts(t, api.Geo{Blocks: blocks, Pages: pages, W: wide.W, K: wide.K}, p, 0, 1, 0)
		}
	}
}

func TestOfWrongSymbolsInOneCodeword(t *testing.T) {
	d := dice{4}
	for _, g := range sizes {
		s := d.page(t, g)
		for w := range g.W {
			for n := 1; n <= most+1; n++ {
				p, want := fresh(s), make([]int, g.W)
				wrong(g, p, s, w, d.places(n, length(g)), 1+uint16(d.below(1023)))
				want[w] = n
				if n > most {
					want[w] = bad
				}
				counts(t, g, p, want...)
			}
		}
	}
}

func TestOfWrongSymbolsInTwoCodewords(t *testing.T) {
	d := dice{5}
	for _, g := range sizes {
		if g.W == 1 {
			continue
		}
		s := d.page(t, g)
		for one := 0; one <= most; one++ {
			for other := 0; other <= most; other++ {
				p, want := fresh(s), make([]int, g.W)
				first := d.below(g.W)
				second := (first + 1 + d.below(g.W-1)) % g.W
				want[first], want[second] = one, other
				wrong(g, p, s, first, d.places(one, length(g)), 3)
				wrong(g, p, s, second, d.places(other, length(g)), 96)
				counts(t, g, p, want...)
			}
		}
	}
}

// One that can't be read leaves the others as they are, ahead of it and behind it.
func TestOfOneThatCannotBeRead(t *testing.T) {
	d := dice{6}
	for _, g := range sizes {
		s := d.page(t, g)
		for lost := range g.W {
			for _, many := range []int{most + 1, most + 2, parity, length(g)} {
				p, want := fresh(s), make([]int, g.W)
				for w := range want {
					n := d.below(most + 1)
					want[w] = n
					if w == lost {
						n, want[w] = many, bad
					}
					for _, i := range d.places(n, length(g)) {
						wrong(g, p, s, w, []int{i}, 1+uint16(d.below(1023)))
					}
				}
				counts(t, g, p, want...)
			}
		}
	}
}

// Nine wrong ones may be eight from another codeword: then it is that one that is read.
func TestOfOneThatIsNearerToAnother(t *testing.T) {
	d := dice{7}
	g, p, s, other := between(t, &d)
	if n := code.Distance(s, other); n != 2*most+1 {
		t.Fatalf("the pages are unlike in %d places", n)
	}
	counts(t, g, p, most)
	counts(t, g, fresh(s), 0)
	counts(t, g, fresh(other), 0)
}

// between are points of a page of one codeword, nine symbols from one page and eight from another.
func between(t *testing.T, d *dice) (api.Geo, []complex128, list, list) {
	t.Helper()
	g := api.Geo{Blocks: 4, Pages: 2, W: 1, K: 20}
	s := d.page(t, g)
	p, other := fresh(s), slices.Clone(s)
	for i, x := range code.Generator(tables) { // 17 symbols, none of them 0
		at := i + 10
		other[len(s)-1-at] ^= x
		if i < most+1 {
			p[len(s)-1-at] = of(other[len(s)-1-at])
		}
	}
	return g, p, s, other
}

// P12.1: Of, points that are just 0.

func TestOfABlankPage(t *testing.T) {
	for _, g := range sizes {
		want := slices.Repeat([]int{bad}, g.W)
		p := make([]complex128, cellsOf(g))
		counts(t, g, p, want...)
		for i := range p {
			p[i] = noughts[i%len(noughts)]
		}
		counts(t, g, p, want...)
	}
}

// A codeword is blank, the others are not.
func TestOfABlankCodeword(t *testing.T) {
	d := dice{8}
	for _, g := range sizes {
		s := d.page(t, g)
		for w := range g.W {
			p, want := fresh(s), make([]int, g.W)
			without(g, p, w, d.places(length(g), length(g)))
			want[w] = bad
			counts(t, g, p, want...)
		}
	}
}

func TestOfPointsAt0(t *testing.T) {
	d := dice{9}
	for _, g := range sizes {
		s := d.page(t, g)
		for w := range g.W {
			for n := 1; n <= most+1; n++ {
				p, want := fresh(s), make([]int, g.W)
				without(g, p, w, d.places(n, length(g)))
				want[w] = n
				if n > most {
					want[w] = bad
				}
				counts(t, g, p, want...)
			}
		}
	}
}

// middles is a page of one codeword all of whose data are the symbol to which the point 0 is nearest.
func middles(t *testing.T) (api.Geo, list) {
	t.Helper()
	g := api.Geo{Blocks: 4, Pages: 2, W: 1, K: 28}
	s := woven(t, g, slices.Repeat(list{middle}, g.K))
	if slices.Contains(s[g.K:], middle) {
		t.Fatalf("behind the data: %v", s[g.K:])
	}
	return g, s
}

// A point at 0 counts where its nearest symbol is the right one, and where it is a wrong one it counts once: with wrong ones beside it both together.
func TestOfPointsAt0BesideWrongOnes(t *testing.T) {
	g, s := middles(t)
	for off := range most + 2 {
		for right := range off + 1 { // so many of those at 0 have the right symbol still
			for both := off; both <= most+1; both++ {
				for _, zero := range noughts {
					p := fresh(s)
					for i := range right {
						p[i] = zero
					}
					for i := range off - right {
						p[g.K+i] = zero
					}
					for i := range both - off {
						p[g.K-1-i] = of(s[g.K-1-i] ^ 7)
					}
					if both > most {
						counts(t, g, p, bad)
					} else {
						counts(t, g, p, both)
					}
				}
			}
		}
	}
}

// Each codeword has points and bounds of its own.
func TestOfPointsAt0InTheirOwnCodeword(t *testing.T) {
	d := dice{10}
	s := d.page(t, wide)
	for w := range wide.W {
		next, last := (w+1)%wide.W, (w+2)%wide.W
		p, want := fresh(s), make([]int, wide.W)
		without(wide, p, w, []int{0, 1, 2, 3, 4})
		wrong(wide, p, s, w, []int{5, 6, 35}, 4)
		without(wide, p, next, []int{0, 1, 2, 3, 4})
		wrong(wide, p, s, next, []int{5, 6, 7, 35}, 4)
		without(wide, p, last, []int{35})
		want[w], want[next], want[last] = most, bad, 1
		counts(t, wide, p, want...)
	}
}

// With one part at 0 alone, or near to it, a point is like any other.
func TestOfPointsNearTo0(t *testing.T) {
	g, s := middles(t)
	for _, x := range []complex128{1i, 1, 1e-300, complex(0, math.SmallestNonzeroFloat64), 0.5 + 0.5i, complex(minus, 1)} {
		p := fresh(s)
		for i := range g.K {
			p[i] = x
		}
		counts(t, g, p, 0)
	}
}

// P12.1: Of, points that were moved.

func TestOfPointsThatAreStillNearest(t *testing.T) {
	d := dice{11}
	for _, g := range sizes {
		s := d.page(t, g)
		for _, by := range []complex128{0.5, -0.5i, 0.99 - 0.99i, -0.25 + 0.75i} {
			p := fresh(s)
			for i := range p {
				p[i] += by
			}
			counts(t, g, p, make([]int, g.W)...)
		}
	}
}

func TestOfPointsBeyondTheGrid(t *testing.T) {
	d := dice{12}
	s := d.page(t, wide)
	p, want := fresh(s), make([]int, wide.W)
	for _, c := range []struct {
		w, i int
		x    complex128
		s    uint16
	}{{0, 30, 1000 - 1000i, 31 << 5}, {1, 31, complex(math.Inf(-1), 33), 31}, {2, 32, 32 + 32i, 1023}, {2, 33, complex(math.NaN(), math.NaN()), 0}} {
		at := c.i*wide.W + c.w
		p[at] = c.x
		if s[at] != c.s { // the symbol that is nearest is another one
			want[c.w]++
		}
	}
	counts(t, wide, p, want...)
}

// What is no number is not just 0: where its symbol is the right one it does not count.
func TestOfPointsThatAreNoNumbers(t *testing.T) {
	g := api.Geo{Blocks: 4, Pages: 2, W: 1, K: 28}
	p := fresh(woven(t, g, make(list, g.K)))
	for i := range g.K {
		p[i] = complex(math.NaN(), math.NaN())
	}
	counts(t, g, p, 0)
	g, s := middles(t)
	for n := range most + 2 {
		for _, x := range []complex128{complex(0, math.NaN()), complex(math.NaN(), 0), complex(math.Inf(1), 0)} {
			p = fresh(s)
			for i := range n {
				p[i] = x
			}
			if n > most {
				counts(t, g, p, bad)
			} else {
				counts(t, g, p, n)
			}
		}
	}
}

// P12.1: Of, what Make would not have made.

func TestOfCodewordsThatMakeWouldNotMake(t *testing.T) {
	d := dice{13}
	for _, g := range sizes {
		for _, data := range []list{make(list, g.W*g.K), slices.Repeat(list{1023}, g.W*g.K), slices.Repeat(list{middle}, g.W*g.K)} {
			s := woven(t, g, data)
			if _, _, _, err := frame.Read(tables, g, fresh(s)); err != api.ErrForm {
				t.Fatalf("Read(%+v, ..) = %v", g, err)
			}
			counts(t, g, fresh(s), make([]int, g.W)...)
			p, want := fresh(s), make([]int, g.W)
			for w := range want {
				want[w] = most - w
				wrong(g, p, s, w, d.places(want[w], length(g)), 1+uint16(d.below(1023)))
			}
			counts(t, g, p, want...)
		}
	}
}

// P12.1: which row is whose.

func TestOfRowsAreInTheOrderOfTheCodewords(t *testing.T) {
	d := dice{14}
	for _, g := range sizes {
		s := d.page(t, g)
		for at := range s {
			p, want := fresh(s), make([]int, g.W)
			p[at] = of(s[at] ^ 1)
			want[at%g.W] = 1
			counts(t, g, p, want...)
			p[at] = 0
			counts(t, g, p, want...)
		}
	}
}

// What holds everywhere.

// A page is read if all its rows are Ok, and the greatest of them is what Read tells.
func TestOfIsAsReadHasIt(t *testing.T) {
	d := dice{15}
	read, lost := 0, 0
	for range 400 {
		g := sizes[d.below(len(sizes))]
		s := d.page(t, g)
		p, want, worst := fresh(s), make([]int, g.W), 0
		for w := range want {
			n := d.below(most + 1)
			want[w] = n
			if d.below(8) == 0 {
				n, want[w] = most+1+d.below(g.K), bad
			}
			for _, i := range d.places(n, length(g)) {
				if d.below(2) == 0 {
					without(g, p, w, []int{i})
				} else {
					wrong(g, p, s, w, []int{i}, 1+uint16(d.below(1023)))
				}
			}
			worst = max(worst, n)
		}
		counts(t, g, p, want...)
		_, _, n, err := frame.Read(tables, g, p)
		switch {
		case worst <= most && err == api.OK && n == worst:
			read++
		case worst > most && err == api.ErrData:
			lost++
		default:
			t.Errorf("Of tells %v, Read %d, %v", want, n, err)
		}
	}
	if read == 0 || lost == 0 {
		t.Errorf("%d were read, %d were not", read, lost)
	}
}

func TestOfAnswersNewMemory(t *testing.T) {
	d := dice{16}
	s := d.page(t, wide)
	p := fresh(s)
	wrong(wide, p, s, 1, []int{3, 4}, 2)
	first, _ := census.Of(tables, wide, p)
	for i := range whole(first) {
		whole(first)[i] = census.Row{Wrong: 7}
	}
	counts(t, wide, p, 0, 2, 0)
}

func TestPointsAreLeftAsTheyWere(t *testing.T) {
	d := dice{17}
	for _, g := range sizes {
		n := cellsOf(g)
		s := d.page(t, g)
		p := append(fresh(s), fresh(d.symbols(40))...)
		wrong(g, p, s, 0, d.places(most, length(g)), 9)
		p[n-1] = complex(minus, 0)
		p[n-2] += complex(math.NaN(), 0.5)
		was := slices.Clone(whole(p))
		for _, l := range [][]complex128{p[:n], p[:n-1], p[:n+1], p[:n:n], p, whole(p)} {
			census.Of(tables, g, l)
			census.Of(tables, api.Geo{}, l)
			census.Shift(tables, g, l)
			census.Shift(tables, api.Geo{}, l)
			census.Margin(l)
		}
		if !like(whole(p), was) {
			t.Errorf("%+v: the points were changed", g)
		}
	}
}

func TestTablesThatNobodyMade(t *testing.T) {
	d := dice{18}
	for _, g := range sizes[:6] {
		s := d.page(t, g)
		for _, n := range []int{0, most, most + 1} {
			p := fresh(s)
			wrong(g, p, s, g.W-1, d.places(n, length(g)), 6)
			want, _ := census.Of(tables, g, p)
			if got, err := census.Of(field.Tables{}, g, p); err != api.OK || !slices.Equal(got, want) {
				t.Errorf("Of(%+v, ..) = %v, %v, want %v", g, got, err, want)
			}
			sum, why := census.Shift(tables, g, p)
			if got, err := census.Shift(field.Tables{}, g, p); err != why || got != sum {
				t.Errorf("Shift(%+v, ..) = %v, %v, want %v, %v", g, got, err, sum, why)
			}
		}
		if got, err := census.Of(field.Tables{}, g, nil); err != api.ErrSize || len(got) != 0 {
			t.Errorf("Of(%+v, none) = %v, %v", g, got, err)
		}
	}
}
