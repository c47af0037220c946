package valid_test

import (
	"math"
	"slices"
	"testing"

	"blackboard/valid"
)

// The bounds, in figures of their own.
const (
	most     = 1048576
	least    = math.MinInt
	greatest = math.MaxInt
)

// lengths are numbers of bits around the borders of words.
var lengths = []int{0, 1, 2, 63, 64, 65, 127, 128, 129, 200}

// far are numbers that are no place of any Bits: also such whose lowest 6, 20 or 32 bits would be one.
var far = []int{least, least + 1, least + 5, -1 << 62, -1 << 32, -1<<32 + 3, -most, -most + 3, -129, -128, -65, -64, -63, -2, -1,
	most, most + 1, most + 3, 2 * most, 1 << 32, 1<<32 + 3, 1 << 62, 1<<62 + 5, greatest - 64, greatest - 63, greatest - 5, greatest - 1, greatest}

// dice throw what looks like any number, the same ones for the same seed.
type dice struct{ seed uint32 }

// below is a number from 0 to n - 1.
func (d *dice) below(n int) int {
	d.seed = d.seed*1664525 + 1013904223
	return int(d.seed>>8) % n
}

// model is bits as a list, each by itself.
type model []bool

// set makes the bit as told, and is whether it was otherwise.
func (m model) set(i int, on bool) bool {
	if i < 0 || i >= len(m) || m[i] == on {
		return false
	}
	m[i] = on
	return true
}

// has is whether the bit is set.
func (m model) has(i int) bool {
	return i >= 0 && i < len(m) && m[i]
}

// count looks at each bit.
func (m model) count(from, to int) int {
	n := 0
	for i, on := range m {
		if on && i >= from && i < to {
			n++
		}
	}
	return n
}

// next looks at each bit.
func (m model) next(from int) (int, bool) {
	for i, on := range m {
		if on && i >= from {
			return i, true
		}
	}
	return 0, false
}

// bits are n bits of which these are set.
func bits(t *testing.T, n int, places ...int) *valid.Bits {
	t.Helper()
	b := valid.New(n)
	for _, i := range places {
		set(t, b, i, true, true)
	}
	return b
}

// every is the places from from on below to.
func every(from, to int) []int {
	var l []int
	for i := from; i < to; i++ {
		l = append(l, i)
	}
	return l
}

// set tells what Set answers.
func set(t *testing.T, b *valid.Bits, i int, on, want bool) {
	t.Helper()
	if got := b.Set(i, on); got != want {
		t.Errorf("of %d bits: Set(%d, %v) = %v, want %v", b.Len(), i, on, got, want)
	}
}

// has tells what Has answers.
func has(t *testing.T, b *valid.Bits, i int, want bool) {
	t.Helper()
	if got := b.Has(i); got != want {
		t.Errorf("of %d bits: Has(%d) = %v, want %v", b.Len(), i, got, want)
	}
}

// count tells what Count answers.
func count(t *testing.T, b *valid.Bits, from, to, want int) {
	t.Helper()
	if got := b.Count(from, to); got != want {
		t.Errorf("of %d bits: Count(%d, %d) = %d, want %d", b.Len(), from, to, got, want)
	}
}

// next tells what Next answers.
func next(t *testing.T, b *valid.Bits, from, want int, is bool) {
	t.Helper()
	if got, ok := b.Next(from); got != want || ok != is {
		t.Errorf("of %d bits: Next(%d) = %d, %v, want %d, %v", b.Len(), from, got, ok, want, is)
	}
}

// length tells what Len answers.
func length(t *testing.T, b *valid.Bits, want int) {
	t.Helper()
	if got := b.Len(); got != want {
		t.Errorf("Len() = %d, want %d", got, want)
	}
}

// only tells that these bits are set, and none else: each by itself, all counted, all in a row. The places rise.
func only(t *testing.T, b *valid.Bits, places ...int) {
	t.Helper()
	left := places
	for i := range b.Len() {
		is := len(left) > 0 && left[0] == i
		has(t, b, i, is)
		if is {
			left = left[1:]
		}
	}
	count(t, b, 0, b.Len(), len(places))
	count(t, b, least, greatest, len(places))
	from := least
	for _, i := range places {
		next(t, b, from, i, true)
		from = i + 1
	}
	next(t, b, from, 0, false)
}

// holds tells that b answers what m does, of each of these places and from each to each.
func holds(t *testing.T, b *valid.Bits, m model, places []int) {
	t.Helper()
	length(t, b, len(m))
	for _, i := range places {
		has(t, b, i, m.has(i))
		want, is := m.next(i)
		next(t, b, i, want, is)
		for _, to := range places {
			count(t, b, i, to, m.count(i, to))
		}
	}
}

// asked are places to be asked of n bits: around the borders of words, around n, and what is none.
func asked(n int) []int {
	l := slices.Clone(far)
	for _, at := range []int{0, 64, 128, 192, n / 2, n} {
		l = append(l, at-2, at-1, at, at+1, at+2)
	}
	slices.Sort(l)
	return slices.Compact(l)
}

// P14.1: the example.

func TestExample(t *testing.T) {
	b := valid.New(8)
	set(t, b, 3, true, true)
	next(t, b, 0, 3, true)
}

// P14.1: all of it, over calls in any order, held against a list.

func TestAnyCalls(t *testing.T) {
	d := &dice{seed: 14}
	for _, n := range []int{0, 1, 2, 7, 63, 64, 65, 100, 128, 130, 193} {
		b, m := valid.New(n), make(model, n)
		for range 40 {
			for range d.below(20) {
				i, on := d.below(n+10)-5, d.below(3) > 0
				set(t, b, i, on, m.set(i, on))
			}
			holds(t, b, m, asked(n))
		}
	}
}

func TestAnyCallsOnMost(t *testing.T) {
	d := &dice{seed: 41}
	b, m := valid.New(most), make(model, most)
	for range 20 {
		at := d.below(most)
		for range 50 {
			i, on := at+d.below(300)-150, d.below(3) > 0
			set(t, b, i, on, m.set(i, on))
		}
		from := at + d.below(300) - 150
		want, is := m.next(from)
		next(t, b, from, want, is)
		to := from + d.below(most)
		count(t, b, from, to, m.count(from, to))
		count(t, b, to-most, from, m.count(to-most, from))
	}
}

func TestAllOfFewBits(t *testing.T) {
	const n = 6
	places := append(every(-2, n+3), least, greatest)
	for which := range 1 << n {
		b, m := valid.New(n), make(model, n)
		for i := range n {
			on := which>>i&1 == 1
			set(t, b, i, on, m.set(i, on))
		}
		holds(t, b, m, places)
	}
}

// R3, R5: what is asked changes nothing, and is answered the same again.

func TestAskingChangesNothing(t *testing.T) {
	for _, n := range []int{0, 1, 64, 65, 150} {
		b, m := valid.New(n), make(model, n)
		for i := 0; i < n; i += 3 {
			set(t, b, i, true, m.set(i, true))
		}
		for range 3 {
			holds(t, b, m, asked(n))
		}
		for i := range n {
			has(t, b, i, i%3 == 0)
		}
	}
}

func TestSameCallsSameAnswers(t *testing.T) {
	a, b := valid.New(130), valid.New(130)
	d := &dice{seed: 5}
	for range 3000 {
		i, on := d.below(136)-3, d.below(2) == 0
		if x, y := a.Set(i, on), b.Set(i, on); x != y {
			t.Fatalf("Set(%d, %v) = %v, then %v", i, on, x, y)
		}
		to := i + d.below(140)
		if x, y := a.Count(i, to), b.Count(i, to); x != y {
			t.Fatalf("Count(%d, %d) = %d, then %d", i, to, x, y)
		}
		x, is := a.Next(i)
		if y, ok := b.Next(i); x != y || is != ok {
			t.Fatalf("Next(%d) = %d, %v, then %d, %v", i, x, is, y, ok)
		}
		if x, y := a.Has(i), b.Has(i); x != y {
			t.Fatalf("Has(%d) = %v, then %v", i, x, y)
		}
	}
}

// R5: two Bits know nothing of one another.

func TestTwoBits(t *testing.T) {
	for _, n := range lengths {
		a, b := valid.New(n), valid.New(n)
		for i := range n {
			set(t, a, i, true, true)
		}
		only(t, a, every(0, n)...)
		only(t, b)
		for i := 0; i < n; i += 2 {
			set(t, b, i, true, true)
			set(t, a, i, false, true)
		}
		for i := range n {
			has(t, a, i, i%2 == 1)
			has(t, b, i, i%2 == 0)
		}
		only(t, valid.New(n))
	}
}

// R7: methods of nothing.

func TestNil(t *testing.T) {
	var none *valid.Bits
	nothing(t, none)
	if none != nil {
		t.Errorf("nil became %v", none)
	}
}

// Bits that nobody made are none.
func TestZeroBits(t *testing.T) {
	nothing(t, new(valid.Bits))
	var b valid.Bits
	nothing(t, &b)
}

// nothing tells that b has no bits, and never will.
func nothing(t *testing.T, b *valid.Bits) {
	t.Helper()
	for range 2 {
		length(t, b, 0)
		for _, i := range append(every(-70, 140), far...) {
			has(t, b, i, false)
			next(t, b, i, 0, false)
			count(t, b, i, greatest, 0)
			count(t, b, least, i, 0)
			count(t, b, 0, i, 0)
			set(t, b, i, true, false)
			set(t, b, i, false, false)
		}
	}
}
