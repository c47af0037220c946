package fate_test

import (
	"math"
	"slices"
	"testing"

	"blackboard/api"
	"blackboard/fate"
)

// The bounds and what may befall, in figures of their own.
const (
	mostFates = 256
	mostOps   = 1 << 40

	fail = 1
	cut  = 2
)

// great are numbers far from all that may be At: also such whose lowest 16, 32 or 40 bits would do.
var great = []int{mostOps + 2, mostOps + 5, 2 * mostOps, 2*mostOps + 7, 1 << 48, 1 << 62, 1<<62 + 5, math.MaxInt - 1, math.MaxInt}

// below are numbers below 0, near and far.
var below = []int{-1, -2, -5, -256, math.MinInt32, -1 << 32, -1<<32 + 5, -mostOps, -mostOps + 5, math.MinInt + 5, math.MinInt + 1, math.MinInt}

// dice throw what looks like any number, the same ones for the same seed.
type dice struct{ seed uint32 }

// below is a number from 0 to n - 1.
func (d *dice) below(n int) int {
	d.seed = d.seed*1664525 + 1013904223
	return int(d.seed>>8) % n
}

// mixed is l in another order.
func (d *dice) mixed(l []api.Fate) []api.Fate {
	l = slices.Clone(l)
	for i := range l {
		k := i + d.below(len(l)-i)
		l[i], l[k] = l[k], l[i]
	}
	return l
}

// falling is l the other way round.
func falling(l []api.Fate) []api.Fate {
	l = slices.Clone(l)
	slices.Reverse(l)
	return l
}

// row is n fates that may be, of every third operation from 5 on, rising.
func row(n int) []api.Fate {
	l := make([]api.Fate, n)
	for i := range l {
		l[i] = api.Fate{At: 5 + 3*i, Do: fail + i%2, Keep: i * i}
	}
	return l
}

// lists are ones that may be: without operations side by side, with such, at both ends, with gaps.
func lists() [][]api.Fate {
	return [][]api.Fate{
		nil,
		{},
		{{At: 0, Do: fail}},
		{{At: mostOps, Do: cut, Keep: 3}},
		{{At: 0, Do: cut, Keep: 1}, {At: mostOps, Do: fail, Keep: 2}},
		{{At: 6, Do: fail, Keep: 1}, {At: 7, Do: fail, Keep: 1}, {At: 8, Do: cut, Keep: 1}},
		{{At: 0, Do: cut}, {At: 1, Do: cut}, {At: 2, Do: fail}, {At: 4, Do: fail}, {At: 5, Do: cut}, {At: 1 << 20, Do: fail, Keep: math.MaxInt}, {At: 1<<32 + 2, Do: cut, Keep: 9}, {At: mostOps - 1, Do: cut}, {At: mostOps, Do: fail}},
		row(2), row(31), row(mostFates - 1), row(mostFates),
	}
}

// made is what New makes of l.
func made(t *testing.T, l []api.Fate) *fate.Fates {
	t.Helper()
	f, err := fate.New(l)
	if err != api.OK || f == nil {
		t.Fatalf("New(%v) = %v, %v", l, f, err)
	}
	return f
}

// refused tells that New refuses l, and answers nothing else.
func refused(t *testing.T, what string, l []api.Fate) {
	t.Helper()
	if f, err := fate.New(l); err != api.ErrArg || f != nil {
		t.Errorf("%s: New(%v) = %v, %v, want nil, %v", what, l, f, err, api.ErrArg)
	}
}

// at tells what At answers.
func at(t *testing.T, f *fate.Fates, n int, want api.Fate, is bool) {
	t.Helper()
	if got, ok := f.At(n); got != want || ok != is {
		t.Errorf("At(%d) = %v, %v, want %v, %v", n, got, ok, want, is)
	}
}

// left tells what Left answers.
func left(t *testing.T, f *fate.Fates, n, want int) {
	t.Helper()
	if got := f.Left(n); got != want {
		t.Errorf("Left(%d) = %d, want %d", n, got, want)
	}
}

// asked are operations to be asked of l: each of it, those beside it, the ends, and what is none.
func asked(l []api.Fate) []int {
	n := slices.Concat(great, below, []int{0, 1, mostOps - 1, mostOps, mostOps + 1})
	for _, x := range l {
		n = append(n, x.At-2, x.At-1, x.At, x.At+1, x.At+2, x.At+1<<32, x.At-1<<32, x.At+mostOps)
	}
	return n
}

// says tells that f answers what l holds, whatever it is asked.
func says(t *testing.T, f *fate.Fates, l []api.Fate) {
	t.Helper()
	for _, n := range asked(l) {
		want, is, many := api.Fate{}, false, 0
		for _, x := range l {
			if x.At == n {
				want, is = x, true
			}
			if x.At >= n {
				many++
			}
		}
		at(t, f, n, want, is)
		left(t, f, n, many)
	}
}

// P9.1: New and what it refuses.

func TestNewOfNone(t *testing.T) {
	for _, l := range [][]api.Fate{nil, {}, row(3)[:0]} {
		f := made(t, l)
		for _, n := range asked(row(3)) {
			at(t, f, n, api.Fate{}, false)
			left(t, f, n, 0)
		}
	}
}

func TestNewOfOne(t *testing.T) {
	for _, x := range []api.Fate{{At: 0, Do: fail}, {At: 1, Do: cut}, {At: 77, Do: cut, Keep: 5}, {At: mostOps, Do: fail, Keep: 1}} {
		says(t, made(t, []api.Fate{x}), []api.Fate{x})
	}
}

func TestNewOfAtMost256(t *testing.T) {
	for _, n := range []int{1, 2, 100, mostFates - 1, mostFates} {
		says(t, made(t, row(n)), row(n))
	}
	for _, n := range []int{mostFates + 1, mostFates + 2, 2 * mostFates, 2*mostFates + 1, 1 << 16, 1<<16 + 1} {
		refused(t, "too many", row(n))
	}
	refused(t, "too many of one operation", make([]api.Fate, mostFates+1))
	if mostFates != api.MaxFates {
		t.Errorf("MaxFates is %d", api.MaxFates)
	}
}

func TestAtIsFrom0ToMaxOps(t *testing.T) {
	if mostOps != api.MaxOps {
		t.Errorf("MaxOps is %d", api.MaxOps)
	}
	for _, n := range []int{0, 1, 2, 1<<31 - 1, 1 << 31, 1 << 32, 1<<32 + 1, mostOps - 1, mostOps} {
		x := api.Fate{At: n, Do: fail, Keep: 4}
		says(t, made(t, []api.Fate{x}), []api.Fate{x})
	}
	for _, n := range slices.Concat([]int{mostOps + 1}, great, below) {
		for _, do := range []int{fail, cut} {
			refused(t, "At", []api.Fate{{At: n, Do: do}})
			refused(t, "At", []api.Fate{{At: n, Do: do, Keep: 4}})
		}
	}
}

func TestDoIsFailOrCut(t *testing.T) {
	if fail != api.Fail || cut != api.Cut {
		t.Errorf("Fail is %d, Cut is %d", api.Fail, api.Cut)
	}
	for _, do := range []int{fail, cut} {
		x := api.Fate{At: 3, Do: do, Keep: 4}
		at(t, made(t, []api.Fate{x}), 3, x, true)
	}
	for _, do := range []int{math.MinInt, math.MinInt + 1, -1 << 32, -1<<32 + 1, -2, -1, 0, cut + 1, cut + 2, 1<<8 + 1, 1<<16 + 2, 1<<32 + 1, 1<<32 + 2, math.MaxInt} {
		refused(t, "Do", []api.Fate{{At: 3, Do: do, Keep: 4}})
		refused(t, "Do", []api.Fate{{At: 0, Do: do}})
	}
	refused(t, "Do", []api.Fate{{}})
}

func TestKeepIsNotBelow0(t *testing.T) {
	for _, do := range []int{fail, cut} {
		for _, keep := range []int{0, 1, 320, 1 << 16, 1<<16 + 1, 1 << 31, 1 << 32, mostOps, mostOps + 1, 1 << 62, math.MaxInt - 1, math.MaxInt} {
			x := api.Fate{At: 3, Do: do, Keep: keep}
			at(t, made(t, []api.Fate{x}), 3, x, true)
		}
		for _, keep := range []int{-1, -2, -320, math.MinInt32, -1 << 32, -1<<32 + 1, math.MinInt + 1, math.MinInt} {
			refused(t, "Keep", []api.Fate{{At: 3, Do: do, Keep: keep}})
		}
	}
}

func TestNoTwoWithOneAt(t *testing.T) {
	same := []api.Fate{{At: 6, Do: fail, Keep: 2}, {At: 6, Do: fail, Keep: 2}}
	refused(t, "alike", same)
	refused(t, "another Keep", []api.Fate{{At: 6, Do: fail, Keep: 2}, {At: 6, Do: fail, Keep: 3}})
	for _, n := range []int{0, 1, 6, mostOps} {
		for _, do := range []int{fail, cut} {
			for _, other := range []int{fail, cut} {
				a, b := api.Fate{At: n, Do: do, Keep: 7}, api.Fate{At: n, Do: other}
				refused(t, "two", []api.Fate{a, b})
				refused(t, "two, of three", []api.Fate{a, {At: 9, Do: fail}, b})
				refused(t, "two, of three", []api.Fate{a, b, {At: 9, Do: fail}})
				refused(t, "two, of three", []api.Fate{{At: 9, Do: fail}, a, b})
				refused(t, "three", []api.Fate{a, b, a})
			}
		}
	}
	refused(t, "as many as may be", slices.Repeat([]api.Fate{{At: 6, Do: cut}}, mostFates))
}

func TestTwoWithOneAtWhereverTheyStand(t *testing.T) {
	for _, n := range []int{2, 3, 9, mostFates} {
		l := row(n)
		places := []int{0, 1, n / 2, n - 2, n - 1}
		for _, i := range places {
			for _, k := range places {
				if i == k {
					continue
				}
				for _, do := range []int{fail, cut} {
					bad := slices.Clone(l)
					bad[k] = api.Fate{At: l[i].At, Do: do, Keep: 1}
					refused(t, "rising but for one", bad)
					refused(t, "falling but for one", falling(bad))
					refused(t, "mixed", (&dice{seed: 9}).mixed(bad))
				}
			}
		}
		says(t, made(t, l), l)
	}
}

func TestOperationsSideBySideAreNotOne(t *testing.T) {
	l := make([]api.Fate, mostFates)
	for i := range l {
		l[i] = api.Fate{At: mostOps - i, Do: cut, Keep: 4}
	}
	says(t, made(t, l), l)
	l = []api.Fate{{At: 5, Do: fail}, {At: 5 + 1<<16, Do: fail}, {At: 5 + 1<<32, Do: fail}, {At: 5 + 1<<39, Do: fail}}
	says(t, made(t, l), l)
}

func TestEachFaultAtEachPlace(t *testing.T) {
	for _, bad := range []api.Fate{
		{At: -1, Do: fail, Keep: 1}, {At: math.MinInt, Do: cut, Keep: 1}, {At: mostOps + 1, Do: fail, Keep: 1}, {At: math.MaxInt, Do: cut, Keep: 1},
		{At: 1, Do: 0, Keep: 1}, {At: 1, Do: 3, Keep: 1}, {At: 1, Do: -1, Keep: 1},
		{At: 1, Do: fail, Keep: -1}, {At: 1, Do: cut, Keep: math.MinInt},
		{At: -1, Do: 3, Keep: -1},
	} {
		for _, n := range []int{1, 2, 3, 10, mostFates} {
			for _, i := range []int{0, n / 2, n - 1} {
				l := row(n)
				made(t, l)
				l[i] = bad
				refused(t, "one that may not be", l)
			}
		}
		refused(t, "all", slices.Repeat([]api.Fate{bad}, 3))
		refused(t, "too many too", append(row(mostFates), bad))
	}
}

// P9.1: At and Left.

func TestAtIsTheWholeFate(t *testing.T) {
	l := []api.Fate{{At: 9, Do: cut, Keep: 0}, {At: 3, Do: fail, Keep: 17}, {At: 4, Do: cut, Keep: math.MaxInt}, {At: 0, Do: fail, Keep: 1}}
	f := made(t, l)
	for _, x := range l {
		at(t, f, x.At, x, true)
	}
	for _, n := range []int{1, 2, 5, 6, 7, 8, 10, 11, 17, mostOps} {
		at(t, f, n, api.Fate{}, false)
	}
}

func TestAtOfNoneThatThereIs(t *testing.T) {
	for _, l := range lists() {
		f := made(t, l)
		for _, n := range slices.Concat(great, below, []int{mostOps + 1}) {
			at(t, f, n, api.Fate{}, false)
		}
	}
}

func TestLeftFromEachOperationOn(t *testing.T) {
	f := made(t, []api.Fate{{At: 7, Do: fail}, {At: 4, Do: cut}, {At: 8, Do: cut}})
	for n, want := range []int{0: 3, 3, 3, 3, 3, 2, 2, 2, 1, 0, 0} {
		left(t, f, n, want)
	}
	for _, n := range below {
		left(t, f, n, 3)
	}
	for _, n := range great {
		left(t, f, n, 0)
	}
	f = made(t, []api.Fate{{At: mostOps, Do: fail}, {At: 0, Do: cut}})
	for n, want := range map[int]int{-1: 2, 0: 2, 1: 1, mostOps - 1: 1, mostOps: 1, mostOps + 1: 0} {
		left(t, f, n, want)
	}
}

func TestLeftFallsByOneBehindEach(t *testing.T) {
	for _, l := range lists() {
		f := made(t, l)
		left(t, f, 0, len(l))
		for i, x := range l { // they rise
			left(t, f, x.At-1, len(l)-i+alike(l, x.At-1))
			left(t, f, x.At, len(l)-i)
			left(t, f, x.At+1, len(l)-i-1)
		}
	}
}

// alike is how many of l are of operation n.
func alike(l []api.Fate, n int) int {
	many := 0
	for _, x := range l {
		if x.At == n {
			many++
		}
	}
	return many
}

func TestAllAnswersOfAllLists(t *testing.T) {
	for _, l := range lists() {
		says(t, made(t, l), l)
	}
}

// P9.1: in any order.

func TestTheOrderIsOfNoMatter(t *testing.T) {
	d := &dice{seed: 90}
	for _, l := range lists() {
		says(t, made(t, falling(l)), l)
		for range 5 {
			says(t, made(t, d.mixed(l)), l)
		}
	}
}

func TestEachOrderOfFour(t *testing.T) {
	l := []api.Fate{{At: 0, Do: cut, Keep: 8}, {At: 1, Do: fail, Keep: 6}, {At: 5, Do: fail, Keep: 4}, {At: mostOps, Do: cut, Keep: 2}}
	for a := range 4 {
		for b := range 4 {
			for c := range 4 {
				e := 6 - a - b - c
				if a == b || a == c || b == c || e < 0 || e > 3 {
					continue
				}
				says(t, made(t, []api.Fate{l[a], l[b], l[c], l[e]}), l)
			}
		}
	}
}

func TestAnyFates(t *testing.T) {
	d := &dice{seed: 91}
	for range 300 {
		var l []api.Fate
		for range d.below(40) {
			x := api.Fate{At: d.below(60), Do: fail + d.below(2), Keep: d.below(400)}
			if alike(l, x.At) > 0 {
				refused(t, "one more of an operation", append(slices.Clone(l), x))
				continue
			}
			l = append(l, x)
		}
		says(t, made(t, l), l)
	}
}

// What holds everywhere: lists.

func TestNewChangesNothingOfItsList(t *testing.T) {
	for _, bad := range []api.Fate{{At: 99, Do: cut}, {At: 5, Do: fail}, {At: -1, Do: fail}, {At: 99, Do: 9}, {At: 99, Do: fail, Keep: -1}} {
		for _, n := range []int{0, 1, 2, 9, mostFates - 1, mostFates, mostFates + 1} {
			room := append(falling(row(n)), bad, api.Fate{At: 1, Do: 7, Keep: -7}, api.Fate{At: 2})
			kept := slices.Clone(room)
			fate.New(room[:n+1])
			fate.New(room[:n])
			if !slices.Equal(room, kept) {
				t.Errorf("New has changed its list, or the room behind it: %v", room)
			}
		}
	}
}

func TestNewKeepsNotItsList(t *testing.T) {
	for _, n := range []int{1, 2, 9, mostFates} {
		for _, l := range [][]api.Fate{row(n), falling(row(n)), (&dice{seed: 92}).mixed(row(n))} {
			f := made(t, l)
			for i := range l {
				l[i] = api.Fate{At: 1000000 - i, Do: 3 - l[i].Do, Keep: -1}
			}
			says(t, f, row(n))
			slices.SortFunc(l, func(a, b api.Fate) int { return a.At - b.At })
			says(t, f, row(n))
			clear(l)
			says(t, f, row(n))
			left(t, f, 0, n)
		}
	}
}

func TestFatesHearNothingOfOneAnother(t *testing.T) {
	l := row(5)
	a := made(t, l)
	l[2].Keep = 77
	b := made(t, l)
	says(t, a, row(5))
	says(t, b, l)
	refused(t, "one more of an operation", append(l, l[0]))
	says(t, a, row(5))
	says(t, b, l)
}

// What holds everywhere: calls.

func TestWhatIsAskedChangesNothing(t *testing.T) {
	d := &dice{seed: 93}
	for _, l := range lists() {
		f := made(t, d.mixed(l))
		for range 3 {
			says(t, f, l)
		}
		for i, x := range falling(l) { // also backwards, and one many times
			at(t, f, x.At, x, true)
			at(t, f, x.At, x, true)
			left(t, f, x.At, i+1)
		}
		left(t, f, 0, len(l))
	}
}

func TestWhatIsAnsweredIsAValue(t *testing.T) {
	f := made(t, row(3))
	x, _ := f.At(5)
	x.At, x.Do, x.Keep = 6, 9, -1
	says(t, f, row(3))
}

// What holds everywhere: none at all.

func TestNilFatesAnswerZeroValues(t *testing.T) {
	var f *fate.Fates
	for _, n := range asked(row(3)) {
		at(t, f, n, api.Fate{}, false)
		left(t, f, n, 0)
	}
}

func TestFatesThatNobodyMadeAreNone(t *testing.T) {
	var f fate.Fates
	for _, n := range asked(row(3)) {
		at(t, &f, n, api.Fate{}, false)
		left(t, &f, n, 0)
	}
}
