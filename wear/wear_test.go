package wear_test

import (
	"cmp"
	"math"
	"slices"
	"testing"

	"blackboard/wear"
)

// The ends of what a number of erases can be.
const (
	least    = math.MinInt
	greatest = math.MaxInt
)

// ints and bools are short for the lists.
type (
	ints  = []int
	bools = []bool
)

// dice throw what looks like any number, the same ones for the same seed.
type dice struct{ seed uint32 }

// below is a number from 0 to n - 1.
func (d *dice) below(n int) int {
	d.seed = d.seed*1664525 + 1013904223
	return int(d.seed>>8) % n
}

// numbers are n of them below many: the fewer these are, the more are alike.
func (d *dice) numbers(n, many int) ints {
	l := make(ints, n)
	for i := range l {
		l[i] = d.below(many)
	}
	return l
}

// some are n bools of which one in many is false.
func (d *dice) some(n, many int) bools {
	l := make(bools, n)
	for i := range l {
		l[i] = d.below(many) > 0
	}
	return l
}

// all are n blocks that may.
func all(n int) bools {
	return slices.Repeat(bools{true}, n)
}

// only is n blocks of which these may.
func only(n int, may ...int) bools {
	l := make(bools, n)
	for _, b := range may {
		l[b] = true
	}
	return l
}

// alike are n numbers that are x.
func alike(n, x int) ints {
	return slices.Repeat(ints{x}, n)
}

// but is l with another number at place b.
func but(l ints, b, x int) ints {
	l = slices.Clone(l)
	l[b] = x
	return l
}

// roomy is l with spare room behind it, full of x; nil as it is.
func roomy[T any](l []T, x T) []T {
	if l == nil {
		return nil
	}
	return append(slices.Clone(l), x, x, x)[:len(l)]
}

// lists are what is handed in, with spare room behind each that would be taken first if it were looked at.
type lists struct {
	valid, erases ints
	may           bools
}

// handed are these, roomy.
func handed(valid, erases ints, may bools) lists {
	return lists{roomy(valid, least), roomy(erases, least), roomy(may, true)}
}

// kept are the lists as they are now, spare room included.
func (l lists) kept() lists {
	return lists{slices.Clone(whole(l.valid)), slices.Clone(whole(l.erases)), slices.Clone(whole(l.may))}
}

// unchanged tells whether they are as they were kept.
func (l lists) unchanged(t *testing.T, kept lists) {
	t.Helper()
	if !slices.Equal(whole(l.valid), kept.valid) || !slices.Equal(whole(l.erases), kept.erases) || !slices.Equal(whole(l.may), kept.may) {
		t.Errorf("lists are changed: %v, were %v", l, kept)
	}
}

// whole is l with its spare room.
func whole[T any](l []T) []T {
	return l[:cap(l)]
}

// pick tells what Pick answers, each time it is asked, and that it leaves its lists as they were.
func pick(t *testing.T, erases ints, may bools, want int, is bool) {
	t.Helper()
	l := handed(nil, erases, may)
	kept := l.kept()
	for range 2 {
		if b, ok := wear.Pick(l.erases, l.may); b != want || ok != is {
			t.Errorf("Pick(%v, %v) = %d, %v, want %d, %v", erases, may, b, ok, want, is)
		}
	}
	l.unchanged(t, kept)
}

// victim tells what Victim answers, as pick does of Pick.
func victim(t *testing.T, valid, erases ints, may bools, want int, is bool) {
	t.Helper()
	l := handed(valid, erases, may)
	kept := l.kept()
	for range 2 {
		if b, ok := wear.Victim(l.valid, l.erases, l.may); b != want || ok != is {
			t.Errorf("Victim(%v, %v, %v) = %d, %v, want %d, %v", valid, erases, may, b, ok, want, is)
		}
	}
	l.unchanged(t, kept)
}

// gap tells what Gap answers, as pick does of Pick.
func gap(t *testing.T, erases ints, may bools, want int) {
	t.Helper()
	l := handed(nil, erases, may)
	kept := l.kept()
	for range 2 {
		if n := wear.Gap(l.erases, l.may); n != want {
			t.Errorf("Gap(%v, %v) = %d, want %d", erases, may, n, want)
		}
	}
	l.unchanged(t, kept)
}

// those are the blocks below n that may.
func those(n int, may bools) ints {
	var l ints
	for b, is := range may {
		if is && b < n {
			l = append(l, b)
		}
	}
	return l
}

// ahead is the first of these blocks when they are put in the order of their numbers in the lists, then of their own.
func ahead(blocks ints, by ...ints) (int, bool) {
	if len(blocks) == 0 {
		return 0, false
	}
	return slices.MinFunc(blocks, func(a, b int) int {
		for _, l := range by {
			if l[a] != l[b] {
				return cmp.Compare(l[a], l[b])
			}
		}
		return cmp.Compare(a, b)
	}), true
}

// span is the greatest of these blocks' erases less the least.
func span(blocks, erases ints) int {
	var l ints
	for _, b := range blocks {
		l = append(l, erases[b])
	}
	if len(l) == 0 {
		return 0
	}
	slices.Sort(l)
	return l[len(l)-1] - l[0]
}

// holds tells all three functions' answers against what is found by putting the blocks in order.
func holds(t *testing.T, valid, erases ints, may bools) {
	t.Helper()
	blocks := those(len(erases), may)
	b, ok := ahead(blocks, erases)
	pick(t, erases, may, b, ok)
	gap(t, erases, may, span(blocks, erases))
	b, ok = ahead(those(min(len(valid), len(erases)), may), valid, erases)
	victim(t, valid, erases, may, b, ok)
}

// each calls do with each list of n of these.
func each[T any](n int, of []T, do func([]T)) {
	if n == 0 {
		do([]T{})
		return
	}
	each(n-1, of, func(l []T) {
		for _, x := range of {
			do(append(slices.Clone(l), x))
		}
	})
}

// P13.1: all three, of all that few blocks can be.

func TestAllOfUpToThreeBlocks(t *testing.T) {
	for n := range 4 {
		each(n, ints{0, 1, 2}, func(valid ints) {
			each(n, ints{0, 1, 2}, func(erases ints) {
				each(n, bools{false, true}, func(may bools) {
					holds(t, valid, erases, may)
				})
			})
		})
	}
}

func TestAllOfUnlikeLengths(t *testing.T) {
	for _, n := range [][3]int{{0, 3, 3}, {1, 3, 3}, {2, 3, 3}, {3, 0, 3}, {3, 1, 3}, {3, 2, 3}, {3, 3, 0}, {3, 3, 1}, {3, 3, 2}, {1, 2, 3}, {3, 2, 1}, {2, 3, 1}} {
		each(n[0], ints{0, 1}, func(valid ints) {
			each(n[1], ints{0, 1}, func(erases ints) {
				each(n[2], bools{false, true}, func(may bools) {
					holds(t, valid, erases, may)
				})
			})
		})
	}
}

func TestAnyBlocks(t *testing.T) {
	d := &dice{seed: 13}
	for range 5000 {
		n := d.below(70)
		valid, erases := d.numbers(n+d.below(3), 1+d.below(9)), d.numbers(n+d.below(3), 1+d.below(9))
		holds(t, valid, erases, d.some(n+d.below(3), 1+d.below(5)))
	}
}

func TestAnyNumbers(t *testing.T) {
	d := &dice{seed: 31}
	near := ints{least, least + 1, -1 << 32, -1, 0, 1, 1 << 32, greatest - 1, greatest}
	for range 2000 {
		n := 1 + d.below(12)
		valid, erases := d.numbers(n, len(near)), d.numbers(n, len(near))
		for b := range n {
			valid[b], erases[b] = near[valid[b]], near[erases[b]]
		}
		holds(t, valid, erases, d.some(n, 4))
	}
}

// R4, R5: what is answered hangs on the lists of that call alone.

func TestListsAreNotKept(t *testing.T) {
	valid, erases, may := ints{4, 2, 3}, ints{3, 1, 1}, all(3)
	first := func(want int) {
		t.Helper()
		pick(t, erases, may, want, true)
		victim(t, valid, erases, may, want, true)
	}
	first(1)
	may[1] = false
	first(2)
	erases[0], valid[0] = 0, 0
	first(0)
	gap(t, erases, may, 1)
	erases[0] = -9
	gap(t, erases, may, 10)
	clear(may)
	pick(t, erases, may, 0, false)
	victim(t, valid, erases, may, 0, false)
	gap(t, erases, may, 0)
}

func TestOneListAsTwo(t *testing.T) {
	l := roomy(ints{5, 3, 7, 3, 9}, least)
	b, ok := wear.Victim(l, l, only(5, 2, 3, 4))
	if b != 3 || !ok || !slices.Equal(l, ints{5, 3, 7, 3, 9}) {
		t.Errorf("Victim of one list as both = %d, %v; the list: %v", b, ok, l)
	}
}
