package census_test

import (
	"math"
	"slices"
	"testing"

	"blackboard/api"
	"blackboard/census"
	"blackboard/code"
	"blackboard/field"
	"blackboard/frame"
	"blackboard/weave"
)

// The bounds, in figures of their own.
const (
	most   = 8 // symbols of a codeword that can be wrong
	parity = 16
	head   = 8
)

// middle is the symbol whose point, 1 + 1i, is the nearest one to 0.
const middle = 16<<5 | 16

// bad is how a row that can't be read is told in tests.
const bad = -1

// list is short for symbols.
type list = []uint16

// tables are made once: they are a value.
var tables = field.Make()

// wide is the geometry of most tests: three codewords of 36 symbols a page.
var wide = api.Geo{Blocks: 8, Pages: 5, W: 3, K: 20}

// sizes are geometries with each number of codewords, the least and the greatest pages among them.
var sizes = []api.Geo{
	{Blocks: 4, Pages: 2, W: 1, K: 9},
	{Blocks: 9, Pages: 4, W: 4, K: 3},
	{Blocks: 5, Pages: 3, W: 2, K: 5},
	{Blocks: 5, Pages: 2, W: 1, K: 64},
	{Blocks: 7, Pages: 7, W: 2, K: 31},
	wide,
	{Blocks: 64, Pages: 32, W: 4, K: 64},
}

// never are geometries that may not be, for each of the reasons.
var never = []api.Geo{
	{},
	{Blocks: 3, Pages: 5, W: 3, K: 20},
	{Blocks: 65, Pages: 5, W: 3, K: 20},
	{Blocks: 8, Pages: 1, W: 3, K: 20},
	{Blocks: 8, Pages: 33, W: 3, K: 20},
	{Blocks: 8, Pages: 5, W: 0, K: 20},
	{Blocks: 8, Pages: 5, W: 5, K: 20},
	{Blocks: 8, Pages: 5, W: 3, K: 0},
	{Blocks: 8, Pages: 5, W: 3, K: 65},
	{Blocks: 8, Pages: 5, W: 1, K: 8},
	{Blocks: 8, Pages: 5, W: 4, K: 2},
	{Blocks: 8, Pages: 5, W: -3, K: -20},
	{Blocks: -8, Pages: 5, W: 3, K: 20},
	{Blocks: math.MaxInt, Pages: math.MaxInt, W: math.MaxInt, K: math.MaxInt},
	{Blocks: math.MinInt, Pages: math.MinInt, W: math.MinInt, K: math.MinInt},
}

// minus is 0 with a minus sign, which a constant can't be.
var minus = math.Copysign(0, -1)

// noughts are all the points that are just 0.
var noughts = []complex128{0, complex(minus, 0), complex(0, minus), complex(minus, minus)}

// dice throw what looks like any number, the same ones for the same seed.
type dice struct{ seed uint32 }

// below is a number from 0 to n - 1.
func (d *dice) below(n int) int {
	d.seed = d.seed*1664525 + 1013904223
	return int(d.seed>>8) % n
}

// symbols are n of them.
func (d *dice) symbols(n int) list {
	s := make(list, n)
	for i := range s {
		s[i] = uint16(d.below(1024))
	}
	return s
}

// places are n of the places below many, each of them once, in any order.
func (d *dice) places(n, many int) []int {
	l := make([]int, many)
	for i := range l {
		l[i] = i
		at := d.below(i + 1)
		l[i], l[at] = l[at], l[i]
	}
	return l[:n]
}

// length is how many symbols a codeword of a page has.
func length(g api.Geo) int {
	return g.K + parity
}

// cellsOf is how many cells a page has.
func cellsOf(g api.Geo) int {
	return g.W * length(g)
}

// page is one that Make makes.
func (d *dice) page(t *testing.T, g api.Geo) list {
	t.Helper()
	data := make([]byte, (g.W*g.K-head)*10/8)
	for i := range data {
		data[i] = byte(d.below(256))
	}
	s, err := frame.Make(tables, g, api.Mark{Kind: 1 + d.below(1023), Lpn: d.below(1 << 20), Seq: d.below(1 << 20)}, data)
	if err != api.OK || len(s) != cellsOf(g) {
		t.Fatalf("Make(%+v, ..) = %v, %v", g, s, err)
	}
	return s
}

// woven is the page of the codewords with these data, W times K of them one row behind the other: Make makes it or not.
func woven(t *testing.T, g api.Geo, data list) list {
	t.Helper()
	var words []list
	for row := range slices.Chunk(data, g.K) {
		word, err := code.Encode(tables, row)
		if err != api.OK {
			t.Fatal(err)
		}
		words = append(words, word)
	}
	s, err := weave.Out(g.W, words)
	if err != api.OK {
		t.Fatal(err)
	}
	return s
}

// of is the point of s.
func of(s uint16) complex128 {
	return complex(float64(2*int(s>>5)-31), float64(2*int(s&31)-31))
}

// fresh are the points of symbols that nothing moved.
func fresh(s list) []complex128 {
	p := make([]complex128, len(s))
	for i, x := range s {
		p[i] = of(x)
	}
	return p
}

// wrong moves the points of these places of codeword w to other symbols': another one for another by, from 1 to 1023.
func wrong(g api.Geo, p []complex128, s list, w int, places []int, by uint16) {
	for _, i := range places {
		at := i*g.W + w
		p[at] = of(s[at] ^ by)
	}
}

// without takes the charge of these places of codeword w.
func without(g api.Geo, p []complex128, w int, places []int) {
	for _, i := range places {
		p[i*g.W+w] = 0
	}
}

// sumOf is the sum of what the points p are off from those of s, in whole numbers: of points that have no others.
func sumOf(p []complex128, s list) complex128 {
	re, im := 0, 0
	for i, x := range p {
		re += int(real(x)) - int(real(of(s[i])))
		im += int(imag(x)) - int(imag(of(s[i])))
	}
	return complex(float64(re), float64(im))
}

// whole is l with its spare room.
func whole[T any](l []T) []T {
	return l[:cap(l)]
}

// like tells whether two lists of points have the same bits: also where they are no numbers, or 0 with a minus sign.
func like(a, b []complex128) bool {
	return slices.EqualFunc(a, b, func(x, y complex128) bool {
		return math.Float64bits(real(x)) == math.Float64bits(real(y)) && math.Float64bits(imag(x)) == math.Float64bits(imag(y))
	})
}

// counts tells what Of answers: of each codeword so many wrong, or bad.
func counts(t *testing.T, g api.Geo, p []complex128, want ...int) {
	t.Helper()
	rows := make([]census.Row, len(want))
	for i, n := range want {
		if n != bad {
			rows[i] = census.Row{Wrong: n, Ok: true}
		}
	}
	if got, err := census.Of(tables, g, p); err != api.OK || !slices.Equal(got, rows) {
		t.Errorf("Of(%+v, ..) = %v, %v, want %v", g, got, err, rows)
	}
}

// shifts tells what Shift answers.
func shifts(t *testing.T, g api.Geo, p []complex128, want complex128) {
	t.Helper()
	if got, err := census.Shift(tables, g, p); err != api.OK || !like([]complex128{got}, []complex128{want}) {
		t.Errorf("Shift(%+v, ..) = %v, %v, want %v", g, got, err, want)
	}
}

// unshifted tells that Shift answers an error, and nothing beside it.
func unshifted(t *testing.T, g api.Geo, p []complex128, want api.Errno) {
	t.Helper()
	if got, err := census.Shift(tables, g, p); err != want || !like([]complex128{got}, []complex128{0}) {
		t.Errorf("Shift(%+v, %d points) = %v, %v, want %v", g, len(p), got, err, want)
	}
}

// refused tells that both Of and Shift answer an error, and nothing beside it.
func refused(t *testing.T, g api.Geo, p []complex128, want api.Errno) {
	t.Helper()
	if got, err := census.Of(tables, g, p); err != want || len(got) != 0 {
		t.Errorf("Of(%+v, %d points) = %v, %v, want %v", g, len(p), got, err, want)
	}
	unshifted(t, g, p, want)
}
