package frame_test

import (
	"math"
	"slices"
	"strconv"
	"strings"
	"testing"

	"blackboard/api"
	"blackboard/field"
	"blackboard/frame"
)

// The bounds, in figures of their own.
const (
	most   = 8 // symbols of a codeword that can be wrong
	parity = 16
	head   = 8
	kinds  = 1024
	lpns   = 1 << 20
	seqs   = 1 << 40
)

// middle is the symbol whose point, 1 + 1i, is the nearest one to 0.
const middle = 16<<5 | 16

// list is short for symbols.
type list = []uint16

// tables are made once: they are a value.
var tables = field.Make()

// wide is the geometry of most tests: three codewords of 36 symbols a page, and 65 bytes, with no bit behind them.
var wide = api.Geo{Blocks: 8, Pages: 5, W: 3, K: 20}

// sizes are geometries with each number of codewords, with 0, 2, 4 and 6 bits behind the last byte, the least and the greatest among them.
var sizes = []api.Geo{
	{Blocks: 4, Pages: 2, W: 1, K: 9},
	{Blocks: 4, Pages: 2, W: 3, K: 3},
	{Blocks: 9, Pages: 4, W: 4, K: 3},
	{Blocks: 5, Pages: 3, W: 2, K: 5},
	{Blocks: 6, Pages: 5, W: 1, K: 11},
	{Blocks: 7, Pages: 7, W: 2, K: 31},
	{Blocks: 5, Pages: 2, W: 1, K: 64},
	{Blocks: 4, Pages: 3, W: 3, K: 21},
	wide,
	{Blocks: 64, Pages: 32, W: 4, K: 64},
}

// never are geometries that may not be, for each of the reasons.
var never = []api.Geo{
	{},
	{Blocks: 3, Pages: 5, W: 3, K: 20},
	{Blocks: 65, Pages: 5, W: 3, K: 20},
	{Blocks: 8, Pages: 1, W: 3, K: 20},
	{Blocks: 8, Pages: 33, W: 3, K: 20},
	{Blocks: 8, Pages: 5, W: 0, K: 20},
	{Blocks: 8, Pages: 5, W: 5, K: 20},
	{Blocks: 8, Pages: 5, W: 3, K: 0},
	{Blocks: 8, Pages: 5, W: 3, K: 65},
	{Blocks: 8, Pages: 5, W: 1, K: 8},
	{Blocks: 8, Pages: 5, W: 4, K: 2},
	{Blocks: 8, Pages: 5, W: -3, K: -20},
	{Blocks: -8, Pages: 5, W: 3, K: 20},
	{Blocks: 8, Pages: 5, W: 1 << 62, K: 1 << 62},
	{Blocks: math.MaxInt, Pages: math.MaxInt, W: math.MaxInt, K: math.MaxInt},
	{Blocks: math.MinInt, Pages: math.MinInt, W: math.MinInt, K: math.MinInt},
}

// heads are some that may be: the least, the greatest, and ones with each part another.
var heads = []api.Mark{
	{Kind: 1},
	{Kind: 2, Lpn: 3, Seq: 4},
	{Kind: 1023, Lpn: lpns - 1, Seq: seqs - 1},
	{Kind: api.Trim, Lpn: 1023, Seq: 1<<30 | 1<<20 | 1<<10 | 1},
	{Kind: 512, Lpn: 1 << 10, Seq: 1 << 39},
	{Kind: 77, Lpn: 700_000, Seq: 987_654_321_012},
}

// dice throw what looks like any number, the same ones for the same seed.
type dice struct{ seed uint32 }

// below is a number from 0 to n - 1.
func (d *dice) below(n int) int {
	d.seed = d.seed*1664525 + 1013904223
	return int(d.seed>>8) % n
}

// bytes are n of them.
func (d *dice) bytes(n int) []byte {
	b := make([]byte, n)
	for i := range b {
		b[i] = byte(d.below(256))
	}
	return b
}

// mark is any head that may be.
func (d *dice) mark() api.Mark {
	return api.Mark{Kind: 1 + d.below(1023), Lpn: d.below(lpns), Seq: d.below(1<<20)<<20 | d.below(1<<20)}
}

// places are n of the places below many, each of them once, in any order.
func (d *dice) places(n, many int) []int {
	l := make([]int, many)
	for i := range l {
		l[i] = i
		at := d.below(i + 1)
		l[i], l[at] = l[at], l[i]
	}
	return l[:n]
}

// cellsOf is how many cells a page has.
func cellsOf(g api.Geo) int {
	return g.W * (g.K + parity)
}

// sizeOf is how many bytes a page has behind its head.
func sizeOf(g api.Geo) int {
	return (g.W*g.K - head) * 10 / 8
}

// spareOf is how many bits of a page's last data symbol lie behind the last byte.
func spareOf(g api.Geo) int {
	return (g.W*g.K-head)*10 - 8*sizeOf(g)
}

// figures are n, as so many 0 and 1.
func figures(n, many int) string {
	s := strconv.FormatInt(int64(n), 2)
	return strings.Repeat("0", many-len(s)) + s
}

// content is what a page says, as symbols: cut from one text of 0 and 1, apart from what packages frame and pack do.
func content(g api.Geo, m api.Mark, data []byte) list {
	text := figures(m.Kind, 10) + figures(m.Lpn, 20) + figures(m.Seq, 40) + figures(0, 10)
	for _, b := range data {
		text += figures(int(b), 8)
	}
	s := make(list, g.W*g.K)
	text += strings.Repeat("0", 10*len(s)-len(text))
	for i := range s {
		n, _ := strconv.ParseUint(text[10*i:10*i+10], 2, 16)
		s[i] = uint16(n)
	}
	return s
}

// times multiplies a and b, bit by bit, apart from what package field does.
func times(a, b uint16) uint16 {
	p := uint32(0)
	for i := range 10 {
		if b>>i&1 != 0 {
			p ^= uint32(a) << i
		}
	}
	for i := 19; i >= 10; i-- {
		if p>>i&1 != 0 {
			p ^= (1<<10 | 1<<3 | 1) << (i - 10)
		}
	}
	return uint16(p)
}

// generator is the product of (x + x to the i), i from 1 to 16, the factor of the highest power ahead.
func generator() list {
	g, root := list{1}, uint16(1)
	for range parity {
		root = times(root, 2)
		next := append(slices.Clone(g), 0)
		for i, f := range g {
			next[i+1] ^= times(f, root)
		}
		g = next
	}
	return g
}

// word is row and what makes it a codeword, by long division, apart from what package code does.
func word(row list) list {
	g := generator()
	rest := append(slices.Clone(row), make(list, parity)...)
	for i := range row {
		f := rest[i]
		for j, x := range g {
			rest[i+j] ^= times(f, x)
		}
	}
	return append(slices.Clone(row), rest[len(row):]...)
}

// paged is the page that says s: dealt round, and put together again, apart from what package weave does.
func paged(g api.Geo, s list) list {
	page := make(list, cellsOf(g))
	for w := range g.W {
		var row list
		for i := w; i < len(s); i += g.W {
			row = append(row, s[i])
		}
		for i, x := range word(row) {
			page[i*g.W+w] = x
		}
	}
	return page
}

// of is the point of s.
func of(s uint16) complex128 {
	return complex(float64(2*int(s>>5)-31), float64(2*int(s&31)-31))
}

// fresh are the points of symbols that nothing moved.
func fresh(s list) []complex128 {
	p := make([]complex128, len(s))
	for i, x := range s {
		p[i] = of(x)
	}
	return p
}

// place is where the i-th symbol of codeword w lies.
func place(g api.Geo, w, i int) int {
	return i*g.W + w
}

// wrong moves the points of these places of codeword w to other symbols': another one for another by, from 1 to 1023.
func wrong(g api.Geo, p []complex128, s list, w int, places []int, by uint16) {
	for _, i := range places {
		at := place(g, w, i)
		p[at] = of(s[at] ^ by)
	}
}

// without takes the charge of these places of codeword w.
func without(g api.Geo, p []complex128, w int, places []int) {
	for _, i := range places {
		p[place(g, w, i)] = 0
	}
}

// upTo are the places from least on and below beyond.
func upTo(least, beyond int) []int {
	var l []int
	for i := least; i < beyond; i++ {
		l = append(l, i)
	}
	return l
}

// whole is l with its spare room.
func whole[T any](l []T) []T {
	return l[:cap(l)]
}

// like tells whether two lists of points have the same bits: also where they are no numbers, or 0 with a minus sign.
func like(a, b []complex128) bool {
	return slices.EqualFunc(a, b, func(x, y complex128) bool {
		return math.Float64bits(real(x)) == math.Float64bits(real(y)) && math.Float64bits(imag(x)) == math.Float64bits(imag(y))
	})
}

// made is the page that Make makes, which is the one that the chapter says.
func made(t *testing.T, g api.Geo, m api.Mark, data []byte) list {
	t.Helper()
	got, err := frame.Make(tables, g, m, data)
	if want := paged(g, content(g, m, data)); err != api.OK || !slices.Equal(got, want) {
		t.Fatalf("Make(%+v, %+v, %v) = %v, %v, want %v", g, m, data, got, err, want)
	}
	return got
}

// unmade tells that Make answers an error, and nothing beside it.
func unmade(t *testing.T, g api.Geo, m api.Mark, data []byte, want api.Errno) {
	t.Helper()
	if got, err := frame.Make(tables, g, m, data); err != want || len(got) != 0 {
		t.Errorf("Make(%+v, %+v, %d bytes) = %v, %v, want %v", g, m, len(data), got, err, want)
	}
}

// reads tells what is read, and how many wrong one codeword has at the most.
func reads(t *testing.T, g api.Geo, p []complex128, m api.Mark, data []byte, worst int) {
	t.Helper()
	gotM, got, n, err := frame.Read(tables, g, p)
	if gotM != m || !slices.Equal(got, data) || n != worst || err != api.OK {
		t.Errorf("Read(%+v, ..) = %+v, %v, %d, %v, want %+v, %v, %d", g, gotM, got, n, err, m, data, worst)
	}
}

// unread tells that Read answers an error, and nothing beside it.
func unread(t *testing.T, g api.Geo, p []complex128, want api.Errno) {
	t.Helper()
	m, data, n, err := frame.Read(tables, g, p)
	if m != (api.Mark{}) || len(data) != 0 || n != 0 || err != want {
		t.Errorf("Read(%+v, %d points) = %+v, %v, %d, %v, want %v", g, len(p), m, data, n, err, want)
	}
}
