package scan_test

import (
	"math"
	"slices"
	"testing"

	"blackboard/api"
	"blackboard/chip"
	"blackboard/code"
	"blackboard/field"
	"blackboard/frame"
	"blackboard/scan"
	"blackboard/weave"
)

// The bounds and what may befall, in figures of their own.
const (
	fail = 1
	cut  = 2

	most   = 8 // symbols of a codeword that can be wrong
	parity = 16
	head   = 8
	lpns   = 1 << 20
	seqs   = 1 << 40
)

// The ends of what a number can be.
const (
	least    = math.MinInt
	greatest = math.MaxInt
)

// tables are made once: they are a value.
var tables = field.Make()

// small is the geometry of most tests: two codewords of 25 symbols a page, and 12 bytes, with 4 bits behind them.
var small = api.Geo{Blocks: 5, Pages: 4, W: 2, K: 9}

// sizes are geometries with each number of codewords, the least among them.
var sizes = []api.Geo{
	{Blocks: 4, Pages: 2, W: 1, K: 9},
	small,
	{Blocks: 6, Pages: 5, W: 3, K: 3},
	{Blocks: 4, Pages: 3, W: 4, K: 20},
	{Blocks: 64, Pages: 2, W: 1, K: 64},
}

// widest is the greatest geometry of all.
var widest = api.Geo{Blocks: 64, Pages: 32, W: 4, K: 64}

// far are numbers of no block: also such whose lowest 8, 16 or 32 bits would do, and such that are beyond an int when they are multiplied.
var far = []int{least, least + 1, least / 2, -1 << 62, -1<<32 + 1, -1 << 32, math.MinInt32, -1<<16 + 1, -256, -255, -65, -64, -5, -4, -3, -2, -1,
	64, 65, 256, 257, 1 << 16, 1<<16 + 1, 1 << 31, 1 << 32, 1<<32 + 1, 1 << 60, 1<<60 + 1, 1 << 62, greatest/4 + 1, greatest - 1, greatest}

// dice throw what looks like any number, the same ones for the same seed.
type dice struct{ seed uint32 }

// below is a number from 0 to n - 1.
func (d *dice) below(n int) int {
	d.seed = d.seed*1664525 + 1013904223
	return int(d.seed>>8) % n
}

// bytes are n of them.
func (d *dice) bytes(n int) []byte {
	b := make([]byte, n)
	for i := range b {
		b[i] = byte(d.below(256))
	}
	return b
}

// mark is any head that may be.
func (d *dice) mark() api.Mark {
	return api.Mark{Kind: 1 + d.below(1023), Lpn: d.below(lpns), Seq: d.below(1<<20)<<20 | d.below(1<<20)}
}

// places are n of the places below many, each of them once, in any order.
func (d *dice) places(n, many int) []int {
	l := make([]int, many)
	for i := range l {
		l[i] = i
		at := d.below(i + 1)
		l[i], l[at] = l[at], l[i]
	}
	return l[:n]
}

// cellsOf is how many cells a page has.
func cellsOf(g api.Geo) int {
	return g.W * (g.K + parity)
}

// sizeOf is how many bytes a page has behind its head.
func sizeOf(g api.Geo) int {
	return (g.W*g.K - head) * 10 / 8
}

// whole is l with its spare room.
func whole[T any](l []T) []T {
	return l[:cap(l)]
}

// made is a device.
func made(t *testing.T, g api.Geo, bad []int, l ...api.Fate) *chip.Chip {
	t.Helper()
	c, err := chip.New(g, bad, l)
	if err != api.OK {
		t.Fatalf("New(%+v, %v, %v): %v", g, bad, l, err)
	}
	return c
}

// says is the page that frame.Make makes of that head and of some data, other ones for another head.
func says(t *testing.T, g api.Geo, m api.Mark) []uint16 {
	t.Helper()
	s, err := frame.Make(tables, g, m, (&dice{uint32(m.Lpn + 7*m.Seq)}).bytes(sizeOf(g)))
	if err != api.OK {
		t.Fatalf("Make(%+v, %+v): %v", g, m, err)
	}
	return s
}

// coded is the page that says the symbols s, whatever they are.
func coded(t *testing.T, g api.Geo, s []uint16) []uint16 {
	t.Helper()
	rows, err := weave.In(g.W, s)
	if err != api.OK {
		t.Fatalf("In(%d, %d symbols): %v", g.W, len(s), err)
	}
	for i, row := range rows {
		if rows[i], err = code.Encode(tables, row); err != api.OK {
			t.Fatalf("Encode(%v): %v", row, err)
		}
	}
	page, err := weave.Out(g.W, rows)
	if err != api.OK {
		t.Fatalf("Out(%d, ..): %v", g.W, err)
	}
	return page
}

// programmed tells what Program answers.
func programmed(t *testing.T, c *chip.Chip, block, page int, s []uint16, want api.Errno) {
	t.Helper()
	if err := c.Program(block, page, s); err != want {
		t.Fatalf("Program(%d, %d, ..) = %v, want %v", block, page, err, want)
	}
}

// erased tells what Erase answers.
func erased(t *testing.T, c *chip.Chip, block int, want api.Errno) {
	t.Helper()
	if err := c.Erase(block); err != want {
		t.Fatalf("Erase(%d) = %v, want %v", block, err, want)
	}
}

// wrote programs a page with that head.
func wrote(t *testing.T, c *chip.Chip, block, page int, m api.Mark) {
	t.Helper()
	programmed(t, c, block, page, says(t, c.Geo(), m), api.OK)
}

// points are a page's, asked of a copy, so that the device hears nothing of it: the copy has its fates, too, and is asked till the power stays.
func points(t *testing.T, c *chip.Chip, block, page int) []complex128 {
	t.Helper()
	d := c.Copy()
	for range 300 {
		d.Power()
		if p, err := d.Sense(block, page); err == api.OK {
			return p
		}
	}
	t.Fatalf("page %d of block %d can't be Sensed", page, block)
	return nil
}

// moved moves a cell.
func moved(t *testing.T, c *chip.Chip, block, page, cell int, by complex128) {
	t.Helper()
	if !c.Drift(block, page, cell, by) {
		t.Fatalf("Drift(%d, %d, %d, %v) = false", block, page, cell, by)
	}
}

// wrong moves a cell to the next symbol, towards the middle.
func wrong(t *testing.T, c *chip.Chip, block, page, cell int) {
	t.Helper()
	by := complex(2, 0)
	if real(points(t, c, block, page)[cell]) > 0 {
		by = -by
	}
	moved(t, c, block, page, cell, by)
}

// nought moves a cell to where it has no charge.
func nought(t *testing.T, c *chip.Chip, block, page, cell int) {
	t.Helper()
	moved(t, c, block, page, cell, -points(t, c, block, page)[cell])
}

// noughts moves all cells of a page to where they have no charge: it is blank then.
func noughts(t *testing.T, c *chip.Chip, block, page int) {
	t.Helper()
	for cell, p := range points(t, c, block, page) {
		moved(t, c, block, page, cell, -p)
	}
}

// same tells whether both are alike.
func same(a, b scan.Sight) bool {
	return slices.Equal(a.Found, b.Found) && a.Used == b.Used && a.Torn == b.Torn
}

// sees tells what Block answers where all is well, and that each page was Sensed once.
func sees(t *testing.T, c *chip.Chip, block int, want scan.Sight) {
	t.Helper()
	ops, refused := c.Ops(), c.Refused()
	got, err := scan.Block(tables, c, block)
	if !same(got, want) || err != api.OK {
		t.Errorf("Block(%d) = %+v, %v, want %+v", block, got, err, want)
	}
	if n := c.Ops() - ops; n != c.Geo().Pages {
		t.Errorf("Block(%d) made %d operations, want %d", block, n, c.Geo().Pages)
	}
	if n := c.Refused() - refused; n != 0 {
		t.Errorf("Block(%d) had %d operations refused", block, n)
	}
}

// blind tells that Block answers an error and nothing else, and how many operations it made.
func blind(t *testing.T, c *chip.Chip, block int, want api.Errno, ops int) {
	t.Helper()
	before := c.Ops()
	got, err := scan.Block(tables, c, block)
	if !same(got, scan.Sight{}) || err != want {
		t.Errorf("Block(%d) = %+v, %v, want nothing, %v", block, got, err, want)
	}
	if n := c.Ops() - before; n != ops {
		t.Errorf("Block(%d) made %d operations, want %d", block, n, ops)
	}
}
