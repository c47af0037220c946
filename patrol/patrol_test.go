package patrol_test

import (
	"math"
	"testing"

	"blackboard/api"
	"blackboard/patrol"
)

// The ends of what a number can be.
const (
	least    = math.MinInt
	greatest = math.MaxInt
)

// middle is a geometry that may be, far from each bound.
var middle = api.Geo{Blocks: 8, Pages: 5, W: 3, K: 20}

// may are geometries that may be: each field at its least, at its greatest, and between.
func may() []api.Geo {
	return []api.Geo{
		middle,
		{Blocks: 4, Pages: 2, W: 1, K: 9},
		{Blocks: 4, Pages: 5, W: 3, K: 20},
		{Blocks: 64, Pages: 5, W: 3, K: 20},
		{Blocks: 8, Pages: 2, W: 3, K: 20},
		{Blocks: 8, Pages: 32, W: 3, K: 20},
		{Blocks: 8, Pages: 5, W: 1, K: 20},
		{Blocks: 8, Pages: 5, W: 4, K: 20},
		{Blocks: 8, Pages: 5, W: 4, K: 3},
		{Blocks: 8, Pages: 5, W: 3, K: 3}, // one above the head
		{Blocks: 8, Pages: 5, W: 3, K: 64},
		{Blocks: 64, Pages: 32, W: 4, K: 64},
	}
}

// with are middle four times, each with one of its fields n.
func with(n int) []api.Geo {
	a, b, c, d := middle, middle, middle, middle
	a.Blocks, b.Pages, c.W, d.K = n, n, n, n
	return []api.Geo{a, b, c, d}
}

// mayNot are geometries that may not be.
func mayNot() []api.Geo {
	l := []api.Geo{
		{},
		{Blocks: 3, Pages: 5, W: 3, K: 20},
		{Blocks: 65, Pages: 5, W: 3, K: 20},
		{Blocks: 8, Pages: 1, W: 3, K: 20},
		{Blocks: 8, Pages: 33, W: 3, K: 20},
		{Blocks: 8, Pages: 5, W: 0, K: 20},
		{Blocks: 8, Pages: 5, W: 5, K: 20},
		{Blocks: 8, Pages: 5, W: 3, K: 0},
		{Blocks: 8, Pages: 5, W: 3, K: 65},
		{Blocks: 8, Pages: 5, W: 2, K: 4}, // just the head
		{Blocks: 8, Pages: 5, W: 1, K: 8},
		{Blocks: -8, Pages: -5, W: 3, K: 20},
		{Blocks: 8, Pages: 5, W: -3, K: -20},
	}
	for _, n := range []int{least, -1 << 32, -1, 0, 1 << 8, 1<<32 + 4, greatest} {
		l = append(l, with(n)...)
		l = append(l, api.Geo{Blocks: n, Pages: n, W: n, K: n})
	}
	return l
}

// dice throw what looks like any number, the same ones for the same seed.
type dice struct{ seed uint32 }

// below is a number from 0 to n - 1.
func (d *dice) below(n int) int {
	d.seed = d.seed*1664525 + 1013904223
	return int(d.seed>>8) % n
}

// model is a patrol that steps from page to page, and counts the rounds as it comes to their ends.
type model struct{ blocks, pages, block, page, rounds int }

// modelOf is a patrol of a geometry that may be.
func modelOf(g api.Geo) *model {
	return &model{blocks: g.Blocks, pages: g.Pages}
}

// next is what Next is to answer, and does it.
func (m *model) next() (int, int) {
	block, page := m.block, m.page
	m.page++
	if m.page < m.pages {
		return block, page
	}
	m.page = 0
	m.block++
	if m.block < m.blocks {
		return block, page
	}
	m.block = 0
	m.rounds++
	return block, page
}

// next tells what Next answers.
func next(t *testing.T, p *patrol.Patrol, block, page int) {
	t.Helper()
	if b, n := p.Next(); b != block || n != page {
		t.Errorf("Next() = %d, %d, want %d, %d", b, n, block, page)
	}
}

// rounds tells what Rounds answers.
func rounds(t *testing.T, p *patrol.Patrol, want int) {
	t.Helper()
	if got := p.Rounds(); got != want {
		t.Errorf("Rounds() = %d, want %d", got, want)
	}
}

// visit tells what Visit answers.
func visit(t *testing.T, g api.Geo, k, block, page int) {
	t.Helper()
	if b, n := patrol.Visit(g, k); b != block || n != page {
		t.Errorf("Visit(%+v, %d) = %d, %d, want %d, %d", g, k, b, n, block, page)
	}
}

// does makes one call of p and of w, and tells where they differ.
func does(t *testing.T, p *patrol.Patrol, w *model) {
	t.Helper()
	block, page := w.next()
	next(t, p, block, page)
	rounds(t, p, w.rounds)
}

// P19.1: the example.

func TestExample(t *testing.T) {
	g := api.Geo{Blocks: 4, Pages: 2, W: 1, K: 9}
	p := patrol.New(g)
	for k := range 8 {
		next(t, p, k/2, k%2)
	}
	rounds(t, p, 1)
	next(t, p, 0, 0)
	visit(t, g, 8, 0, 0)
}

// R3, R5: the same calls bring the same answers, and what is asked changes nothing.

func TestSameCallsSameAnswers(t *testing.T) {
	type answer struct{ block, page, rounds, otherBlock, otherPage int }
	play := func() []answer {
		var l []answer
		d, p := &dice{seed: 19}, patrol.New(middle)
		for range 1000 {
			var a answer
			a.block, a.page = p.Next()
			for range d.below(3) {
				a.rounds = p.Rounds()
			}
			a.otherBlock, a.otherPage = patrol.Visit(middle, d.below(100)-10)
			l = append(l, a)
		}
		return l
	}
	first := play()
	for i, a := range play() {
		if a != first[i] {
			t.Fatalf("answers of call %d: %+v, then %+v", i, first[i], a)
		}
	}
}

// R5: patrols know nothing of one another, and those of unlike geometries don't, either.

func TestTwoPatrols(t *testing.T) {
	d := &dice{seed: 3}
	for _, g := range may() {
		a, b := patrol.New(middle), patrol.New(g)
		one, other := modelOf(middle), modelOf(g)
		for range 1000 {
			if d.below(2) == 0 {
				does(t, a, one)
			} else {
				does(t, b, other)
			}
			rounds(t, a, one.rounds)
			rounds(t, b, other.rounds)
		}
	}
}

// One that is made while another is on its way begins at the beginning.
func TestANewOneBeginsAtTheBeginning(t *testing.T) {
	old, w := patrol.New(middle), modelOf(middle)
	for range 2*8*5 + 7 {
		does(t, old, w)
		p := patrol.New(middle)
		rounds(t, p, 0)
		next(t, p, 0, 0)
	}
}

// Rows and visits leave a patrol where it is.
func TestVisitAndDueMoveNothing(t *testing.T) {
	p, w := patrol.New(middle), modelOf(middle)
	for k := range 3 * 8 * 5 {
		patrol.Visit(middle, k*7)
		patrol.Due(nil)
		does(t, p, w)
	}
}

// A geometry is a value: what becomes of the one that was handed in is nothing to the patrol.
func TestGeometryIsAValue(t *testing.T) {
	g := middle
	p, w := patrol.New(g), modelOf(middle)
	for range 100 {
		g.Blocks, g.Pages = 4, 2
		does(t, p, w)
		g = api.Geo{}
		does(t, p, w)
	}
	if g != (api.Geo{}) {
		t.Errorf("the geometry became %+v", g)
	}
}

// R7: methods of nothing.

func TestNil(t *testing.T) {
	var p *patrol.Patrol
	for range 100 {
		next(t, p, 0, 0)
		rounds(t, p, 0)
	}
	if p != nil {
		t.Errorf("nil became %v", p)
	}
}

// One that nobody made has no pages to tell.
func TestZeroPatrol(t *testing.T) {
	p := new(patrol.Patrol)
	for range 100 {
		next(t, p, 0, 0)
		rounds(t, p, 0)
	}
}
