package front_test

import (
	"math"
	"testing"

	"blackboard/api"
	"blackboard/front"
)

// The ends of what a number can be.
const (
	least    = math.MinInt
	greatest = math.MaxInt
)

// far are numbers that are no block and no page of any geometry: also such whose lowest 6, 8 or 32 bits would be one, and such that are beyond an int when they are multiplied.
var far = []int{least, least + 1, least + 3, least / 2, least / 4, -1 << 62, -1<<32 + 1, -1 << 32, -256, -255, -65, -64, -63, -33, -32, -5, -2, -1,
	64, 65, 67, 128, 256, 257, 1 << 32, 1<<32 + 1, 1 << 59, 1<<59 + 1, 1 << 62, 1<<62 + 2, greatest/5 + 1, greatest / 2, greatest - 63, greatest - 1, greatest}

// middle is a geometry that may be, far from each bound.
var middle = api.Geo{Blocks: 8, Pages: 5, W: 3, K: 20}

// dice throw what looks like any number, the same ones for the same seed.
type dice struct{ seed uint32 }

// below is a number from 0 to n - 1.
func (d *dice) below(n int) int {
	d.seed = d.seed*1664525 + 1013904223
	return int(d.seed>>8) % n
}

// model is a frontier as the pages that are yet to be taken, in order. Of a geometry that may not be there are neither blocks nor pages.
type model struct {
	blocks, pages int
	left          [][2]int
}

// modelOf is a frontier of a geometry that may be.
func modelOf(g api.Geo) *model {
	return &model{blocks: g.Blocks, pages: g.Pages}
}

// open is what Open is to answer, and does it.
func (m *model) open(block, page int) bool {
	if len(m.left) > 0 || block < 0 || block >= m.blocks || page < 0 || page >= m.pages {
		return false
	}
	for ; page < m.pages; page++ {
		m.left = append(m.left, [2]int{block, page})
	}
	return true
}

// next is what Next is to answer.
func (m *model) next() (int, int, bool) {
	if len(m.left) == 0 {
		return 0, 0, false
	}
	return m.left[0][0], m.left[0][1], true
}

// take is what Take is to answer, and does it.
func (m *model) take() (int, int, bool) {
	block, page, ok := m.next()
	if ok {
		m.left = m.left[1:]
	}
	return block, page, ok
}

// block is what Block is to answer.
func (m *model) block() int {
	if len(m.left) == 0 {
		return -1
	}
	return m.left[0][0]
}

// shut is what Shut is to answer, and does it.
func (m *model) shut() int {
	block := m.block()
	m.left = nil
	return block
}

// open tells what Open answers.
func open(t *testing.T, f *front.Front, block, page int, want bool) {
	t.Helper()
	if got := f.Open(block, page); got != want {
		t.Errorf("Open(%d, %d) = %v, want %v", block, page, got, want)
	}
}

// next tells what Next answers.
func next(t *testing.T, f *front.Front, block, page int, is bool) {
	t.Helper()
	if b, p, ok := f.Next(); b != block || p != page || ok != is {
		t.Errorf("Next() = %d, %d, %v, want %d, %d, %v", b, p, ok, block, page, is)
	}
}

// take tells what Take answers.
func take(t *testing.T, f *front.Front, block, page int, is bool) {
	t.Helper()
	if b, p, ok := f.Take(); b != block || p != page || ok != is {
		t.Errorf("Take() = %d, %d, %v, want %d, %d, %v", b, p, ok, block, page, is)
	}
}

// shut tells what Shut answers.
func shut(t *testing.T, f *front.Front, want int) {
	t.Helper()
	if got := f.Shut(); got != want {
		t.Errorf("Shut() = %d, want %d", got, want)
	}
}

// stands tells what Block and Left answer.
func stands(t *testing.T, f *front.Front, block, left int) {
	t.Helper()
	if got := f.Block(); got != block {
		t.Errorf("Block() = %d, want %d", got, block)
	}
	if got := f.Left(); got != left {
		t.Errorf("Left() = %d, want %d", got, left)
	}
}

// holds tells that f answers what w does.
func holds(t *testing.T, f *front.Front, w *model) {
	t.Helper()
	block, page, ok := w.next()
	next(t, f, block, page, ok)
	stands(t, f, w.block(), len(w.left))
}

// notOpen tells that f is not open.
func notOpen(t *testing.T, f *front.Front) {
	t.Helper()
	next(t, f, 0, 0, false)
	stands(t, f, -1, 0)
}

// openAt is a frontier that was opened there.
func openAt(t *testing.T, g api.Geo, block, page int) *front.Front {
	t.Helper()
	f := front.New(g)
	open(t, f, block, page, true)
	return f
}

// each calls do with each block and each page that there is.
func each(g api.Geo, do func(block, page int)) {
	for block := range g.Blocks {
		for page := range g.Pages {
			do(block, page)
		}
	}
}

// P17.1: the example, and a frontier from its beginning to its end.

func TestExample(t *testing.T) {
	f := front.New(middle)
	open(t, f, 2, 0, true)
	take(t, f, 2, 0, true)
}

func TestFromTheBeginningToTheEnd(t *testing.T) {
	f := front.New(middle)
	notOpen(t, f)
	open(t, f, 6, 3, true)
	next(t, f, 6, 3, true)
	stands(t, f, 6, 2)
	take(t, f, 6, 3, true)
	next(t, f, 6, 4, true)
	stands(t, f, 6, 1)
	take(t, f, 6, 4, true)
	notOpen(t, f)
	take(t, f, 0, 0, false)
	shut(t, f, -1)
	open(t, f, 0, 0, true)
	take(t, f, 0, 0, true)
	stands(t, f, 0, 4)
	shut(t, f, 0)
	notOpen(t, f)
}

// P17.1: all of it, over calls in any order, held against a list of pages.

// does makes one call of f and of w, and tells where they differ.
func does(t *testing.T, f *front.Front, w *model, which, block, page int) {
	t.Helper()
	switch which {
	case 0:
		open(t, f, block, page, w.open(block, page))
	case 1:
		shut(t, f, w.shut())
	default:
		b, p, ok := w.take()
		take(t, f, b, p, ok)
	}
	holds(t, f, w)
}

func TestAnyCalls(t *testing.T) {
	d := &dice{seed: 17}
	for _, g := range may() {
		f, w := front.New(g), modelOf(g)
		for range 2000 {
			which := d.below(g.Pages + 3)
			does(t, f, w, which, d.below(g.Blocks+4)-2, d.below(g.Pages+4)-2)
		}
	}
}

// All calls that a frontier of two pages a block can be given, six in a row.
func TestAllCallsOfFew(t *testing.T) {
	g := api.Geo{Blocks: 4, Pages: 2, W: 1, K: 9}
	calls := [][3]int{{1}, {2}, {0, 0, 0}, {0, 0, 1}, {0, 3, 1}, {0, 4, 0}, {0, 0, 2}, {0, -1, 2}}
	const row = 6
	all := 1
	for range row {
		all *= len(calls)
	}
	for which := range all {
		f, w := front.New(g), modelOf(g)
		for rest, n := which, 0; n < row; rest, n = rest/len(calls), n+1 {
			c := calls[rest%len(calls)]
			does(t, f, w, c[0], c[1], c[2])
		}
	}
}

// R3, R5: what is asked changes nothing, and is answered the same again.

func TestAskingChangesNothing(t *testing.T) {
	f, w := front.New(middle), modelOf(middle)
	for range 5 {
		holds(t, f, w)
	}
	open(t, f, 3, 1, w.open(3, 1))
	for range 6 {
		for range 5 {
			holds(t, f, w)
		}
		b, p, ok := w.take()
		take(t, f, b, p, ok)
	}
	open(t, f, 1, 4, w.open(1, 4))
	for range 5 {
		holds(t, f, w)
	}
	shut(t, f, w.shut())
	for range 5 {
		holds(t, f, w)
	}
}

func TestSameCallsSameAnswers(t *testing.T) {
	type answer struct {
		opened              bool
		block, page         int
		took                bool
		shut                int
		nextBlock, nextPage int
		is                  bool
		at, left            int
	}
	play := func() []answer {
		var l []answer
		d, f := &dice{seed: 71}, front.New(middle)
		for range 3000 {
			a := answer{opened: f.Open(d.below(10)-1, d.below(7)-1)}
			if d.below(3) > 0 {
				a.block, a.page, a.took = f.Take()
			}
			if d.below(6) == 0 {
				a.shut = f.Shut()
			}
			a.nextBlock, a.nextPage, a.is = f.Next()
			a.at, a.left = f.Block(), f.Left()
			l = append(l, a)
		}
		return l
	}
	first := play()
	for i, a := range play() {
		if a != first[i] {
			t.Fatalf("answers of call %d: %+v, then %+v", i, first[i], a)
		}
	}
}

// R5: frontiers know nothing of one another, and those of unlike geometries don't, either.

func TestTwoFronts(t *testing.T) {
	d := &dice{seed: 2}
	unlike := api.Geo{Blocks: 8, Pages: 7, W: 1, K: 12}
	for _, g := range []api.Geo{middle, unlike} {
		a, b := front.New(middle), front.New(g)
		one, other := modelOf(middle), modelOf(g)
		for range 2000 {
			if d.below(2) == 0 {
				does(t, a, one, d.below(7), d.below(8), d.below(5))
			} else {
				does(t, b, other, d.below(7), d.below(8), d.below(5))
			}
			holds(t, a, one)
			holds(t, b, other)
		}
	}
}

// Both may be open in the same place, and each takes its pages for itself.
func TestTwoFrontsInOnePlace(t *testing.T) {
	a, b := openAt(t, middle, 4, 2), openAt(t, middle, 4, 2)
	for page := 2; page < 5; page++ {
		take(t, a, 4, page, true)
	}
	notOpen(t, a)
	next(t, b, 4, 2, true)
	stands(t, b, 4, 3)
	shut(t, a, -1)
	take(t, b, 4, 2, true)
	open(t, a, 4, 4, true)
	shut(t, b, 4)
	next(t, a, 4, 4, true)
	notOpen(t, front.New(middle))
}

// R7: methods of nothing.

// refuses tells that f can't be opened anywhere.
func refuses(t *testing.T, f *front.Front) {
	t.Helper()
	near := []int{-2, -1, 0, 1, 2, 3, 4, 5, 7, 8, 31, 32, 63}
	for _, n := range append(near, far...) {
		open(t, f, n, 0, false)
		open(t, f, 0, n, false)
		open(t, f, n, n, false)
		open(t, f, 1, n, false)
		open(t, f, n, 1, false)
	}
}

func TestNil(t *testing.T) {
	var f *front.Front
	for range 2 {
		refuses(t, f)
		next(t, f, 0, 0, false)
		take(t, f, 0, 0, false)
		stands(t, f, 0, 0)
		shut(t, f, 0)
	}
	if f != nil {
		t.Errorf("nil became %v", f)
	}
}

// One that nobody made has no blocks: it is not open, and can't be.
func TestZeroFront(t *testing.T) {
	f := new(front.Front)
	for range 2 {
		notOpen(t, f)
		refuses(t, f)
		take(t, f, 0, 0, false)
		shut(t, f, -1)
		notOpen(t, f)
	}
}
