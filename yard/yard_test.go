package yard_test

import (
	"math"
	"slices"
	"testing"

	"blackboard/yard"
)

// The bounds, in figures of their own.
const (
	most     = 64
	least    = math.MinInt
	greatest = math.MaxInt
)

// far are numbers that are no block of any yard, and no state: also such whose lowest 6, 8 or 32 bits would be one.
var far = []int{least, least + 1, least + 3, -1 << 62, -1 << 32, -1<<32 + 1, -256, -255, -65, -64, -63, -2, -1,
	most, most + 1, most + 3, 2*most + 2, 256, 257, 1 << 32, 1<<32 + 1, 1<<32 + 4, 1 << 62, 1<<62 + 2, greatest - 63, greatest - 1, greatest}

// states are all that a block can be.
var states = []int{yard.Free, yard.Open, yard.Full, yard.Bad}

// none are numbers that are no state.
var none = append([]int{0, 5, 6, 7, 8, 9, 63}, far...)

// turns are what a block may become, each a pair of what it is and what it becomes.
var turns = [][2]int{{1, 2}, {2, 3}, {3, 1}, {1, 4}, {2, 4}, {3, 4}}

// dice throw what looks like any number, the same ones for the same seed.
type dice struct{ seed uint32 }

// below is a number from 0 to n - 1.
func (d *dice) below(n int) int {
	d.seed = d.seed*1664525 + 1013904223
	return int(d.seed>>8) % n
}

// block is what a model keeps of one.
type block struct{ state, erases int }

// model is a yard as one list.
type model []block

// modelOf is a yard of Free blocks.
func modelOf(blocks int) model {
	return slices.Repeat(model{{state: 1}}, blocks)
}

// at is the block of that number: where there is none, one of nothing.
func (m model) at(b int) block {
	if b < 0 || b >= len(m) {
		return block{}
	}
	return m[b]
}

// turn is what Turn is to answer, and does it.
func (m model) turn(b, state int) bool {
	ok := slices.Contains(turns, [2]int{m.at(b).state, state})
	if ok {
		m[b].state = state
	}
	return ok
}

// erased does what Erased is to do.
func (m model) erased(b int) {
	if b >= 0 && b < len(m) {
		m[b].erases++
	}
}

// list is what List is to answer.
func (m model) list(state int) []int {
	var l []int
	for b := range m {
		if m[b].state == state {
			l = append(l, b)
		}
	}
	return l
}

// pick is what Pick is to answer: how often each Free block was wiped is put in order, and then their numbers are.
func (m model) pick() (int, bool) {
	l := m.list(1)
	slices.SortStableFunc(l, func(a, b int) int { return m[a].erases - m[b].erases })
	if len(l) == 0 {
		return 0, false
	}
	return l[0], true
}

// every is the numbers from from on below to.
func every(from, to int) []int {
	var l []int
	for i := from; i < to; i++ {
		l = append(l, i)
	}
	return l
}

// turn tells what Turn answers.
func turn(t *testing.T, y *yard.Yard, b, state int, want bool) {
	t.Helper()
	if got := y.Turn(b, state); got != want {
		t.Errorf("Turn(%d, %d) = %v, want %v", b, state, got, want)
	}
}

// state tells what State answers.
func state(t *testing.T, y *yard.Yard, b, want int) {
	t.Helper()
	if got := y.State(b); got != want {
		t.Errorf("State(%d) = %d, want %d", b, got, want)
	}
}

// erases tells what Erases answers.
func erases(t *testing.T, y *yard.Yard, b, want int) {
	t.Helper()
	if got := y.Erases(b); got != want {
		t.Errorf("Erases(%d) = %d, want %d", b, got, want)
	}
}

// list tells what List and Count answer.
func list(t *testing.T, y *yard.Yard, state int, want ...int) {
	t.Helper()
	if got := y.List(state); !slices.Equal(got, want) {
		t.Errorf("List(%d) = %v, want %v", state, got, want)
	}
	if got := y.Count(state); got != len(want) {
		t.Errorf("Count(%d) = %d, want %d", state, got, len(want))
	}
}

// pick tells what Pick answers.
func pick(t *testing.T, y *yard.Yard, want int, is bool) {
	t.Helper()
	if got, ok := y.Pick(); got != want || ok != is {
		t.Errorf("Pick() = %d, %v, want %d, %v", got, ok, want, is)
	}
}

// holds tells that y answers what w does, of all blocks, of those that there are none of, and of each state.
func holds(t *testing.T, y *yard.Yard, w model) {
	t.Helper()
	for _, b := range append(every(-3, len(w)+3), far...) {
		state(t, y, b, w.at(b).state)
		erases(t, y, b, w.at(b).erases)
	}
	for _, s := range states {
		list(t, y, s, w.list(s)...)
	}
	for _, s := range none {
		list(t, y, s)
	}
	b, is := w.pick()
	pick(t, y, b, is)
}

// brought is a yard of that many blocks and its model, with block b brought to be that.
func brought(t *testing.T, blocks, b, to int) (*yard.Yard, model) {
	t.Helper()
	y, w := yard.New(blocks), modelOf(blocks)
	bring(t, y, w, b, to)
	return y, w
}

// bring makes a block that is Free become that, step by step.
func bring(t *testing.T, y *yard.Yard, w model, b, to int) {
	t.Helper()
	var steps []int
	switch to {
	case yard.Open:
		steps = []int{yard.Open}
	case yard.Full:
		steps = []int{yard.Open, yard.Full}
	case yard.Bad:
		steps = []int{yard.Bad}
	}
	for _, s := range steps {
		turn(t, y, b, s, true)
		w.turn(b, s)
	}
	state(t, y, b, to)
}

// wipe tells y that block b was wiped so many times.
func wipe(y *yard.Yard, w model, b, times int) {
	for range times {
		y.Erased(b)
		w.erased(b)
	}
}

// P16.1: the states' numbers, and the example.

func TestNumbersOfStates(t *testing.T) {
	if got := [4]int{yard.Free, yard.Open, yard.Full, yard.Bad}; got != [4]int{1, 2, 3, 4} {
		t.Errorf("Free, Open, Full, Bad are %v, want 1, 2, 3, 4", got)
	}
}

func TestExample(t *testing.T) {
	y := yard.New(8)
	turn(t, y, 3, yard.Full, false)
	holds(t, y, modelOf(8))
}

// P16.1: all of it, over calls in any order, held against a list.

func TestAnyCalls(t *testing.T) {
	d := &dice{seed: 16}
	for _, blocks := range []int{0, 1, 2, 3, 8, 63, 64} {
		y, w := yard.New(blocks), modelOf(blocks)
		for range 600 {
			b := d.below(blocks+4) - 2
			switch d.below(3) {
			case 0:
				y.Erased(b)
				w.erased(b)
			default:
				s := anyState(d)
				turn(t, y, b, s, w.turn(b, s))
			}
			holds(t, y, w)
		}
	}
}

// anyState is seldom Bad, which is for good, and seldom no state.
func anyState(d *dice) int {
	if d.below(12) == 0 {
		return d.below(7) - 1
	}
	return 1 + d.below(3)
}

// All calls that a yard of two blocks can be given, five in a row.
func TestAllCallsOfFew(t *testing.T) {
	const blocks, calls = 2, 5
	const kinds = blocks * 5 // four states to turn to, and one to wipe
	all := 1
	for range calls {
		all *= kinds
	}
	for which := range all {
		y, w := yard.New(blocks), modelOf(blocks)
		for rest, n := which, 0; n < calls; rest, n = rest/kinds, n+1 {
			b, s := rest%kinds/5, 1+rest%5
			if s <= 4 {
				turn(t, y, b, s, w.turn(b, s))
			} else {
				wipe(y, w, b, 1)
			}
		}
		shows(t, y, w)
	}
}

// shows tells that y answers what w does, of its blocks and the four states alone.
func shows(t *testing.T, y *yard.Yard, w model) {
	t.Helper()
	for b := range w {
		state(t, y, b, w[b].state)
		erases(t, y, b, w[b].erases)
	}
	for _, s := range states {
		list(t, y, s, w.list(s)...)
	}
	b, is := w.pick()
	pick(t, y, b, is)
}

// R3, R5: what is asked changes nothing, and is answered the same again.

func TestAskingChangesNothing(t *testing.T) {
	for _, blocks := range []int{0, 1, 5, 64} {
		y, w := yard.New(blocks), modelOf(blocks)
		for b := range blocks {
			wipe(y, w, b, 7-b%7)
			bring(t, y, w, b, states[b%4])
		}
		for range 3 {
			holds(t, y, w)
		}
	}
}

func TestSameCallsSameAnswers(t *testing.T) {
	a, b := yard.New(20), yard.New(20)
	d := &dice{seed: 61}
	for range 3000 {
		i, s := d.below(24)-2, anyState(d)
		a.Erased(i)
		b.Erased(i)
		i = d.below(24) - 2
		if x, y := a.Turn(i, s), b.Turn(i, s); x != y {
			t.Fatalf("Turn(%d, %d) = %v, then %v", i, s, x, y)
		}
		if x, y := a.State(i), b.State(i); x != y {
			t.Fatalf("State(%d) = %d, then %d", i, x, y)
		}
		if x, y := a.Erases(i), b.Erases(i); x != y {
			t.Fatalf("Erases(%d) = %d, then %d", i, x, y)
		}
		if x, y := a.List(s), b.List(s); !slices.Equal(x, y) {
			t.Fatalf("List(%d) = %v, then %v", s, x, y)
		}
		if x, y := a.Count(s), b.Count(s); x != y {
			t.Fatalf("Count(%d) = %d, then %d", s, x, y)
		}
		x, is := a.Pick()
		if y, ok := b.Pick(); x != y || is != ok {
			t.Fatalf("Pick() = %d, %v, then %d, %v", x, is, y, ok)
		}
	}
}

// R5: two yards know nothing of one another.

func TestTwoYards(t *testing.T) {
	a, b := yard.New(12), yard.New(12)
	one, other := modelOf(12), modelOf(12)
	for i := range 12 {
		wipe(a, one, i, i%5)
		bring(t, a, one, i, states[i%4])
		holds(t, a, one)
		holds(t, b, other)
	}
	for i := range 12 {
		wipe(b, other, i, 2*i)
		bring(t, b, other, i, states[(i+1)%4])
		holds(t, a, one)
		holds(t, b, other)
	}
	holds(t, yard.New(12), modelOf(12))
}

// R7: methods of nothing.

func TestNil(t *testing.T) {
	var y *yard.Yard
	for range 2 {
		nothing(t, y)
	}
	if y != nil {
		t.Errorf("nil became %v", y)
	}
}

// A yard that nobody made has no blocks.
func TestZeroYard(t *testing.T) {
	y := new(yard.Yard)
	for range 2 {
		nothing(t, y)
	}
}

// nothing tells that y, with no blocks, answers so, whatever it is given.
func nothing(t *testing.T, y *yard.Yard) {
	t.Helper()
	for _, b := range append(every(-3, 70), far...) {
		y.Erased(b)
		for _, s := range append(none, states...) {
			turn(t, y, b, s, false)
		}
	}
	holds(t, y, nil)
}
