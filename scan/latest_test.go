package scan_test

import (
	"slices"
	"testing"

	"blackboard/api"
	"blackboard/scan"
)

// P18.1: Latest.

// at is a page that was found, with that host page, that number in the order of writing and that place.
func at(lpn, seq, page int) scan.Found {
	return scan.Found{Page: page, Mark: api.Mark{Kind: 1, Lpn: lpn, Seq: seq}}
}

// ends are numbers of any kind, none of which may stand for something else.
var ends = []int{least, least + 1, -1 << 32, -2, -1, 0, 1, 7, lpns - 1, lpns, seqs - 1, seqs, 1 << 62, greatest - 1, greatest}

// chosen is what Latest is to answer: one by one, each held against the best of its host page.
func chosen(l []scan.Found) []scan.Found {
	best := map[int]scan.Found{}
	var lpns []int
	for _, f := range l {
		b, ok := best[f.Mark.Lpn]
		if !ok {
			lpns = append(lpns, f.Mark.Lpn)
		}
		if !ok || f.Mark.Seq > b.Mark.Seq || f.Mark.Seq == b.Mark.Seq && f.Page < b.Page {
			best[f.Mark.Lpn] = f
		}
	}
	slices.Sort(lpns)
	var c []scan.Found
	for _, n := range lpns {
		c = append(c, best[n])
	}
	return c
}

// latest tells what Latest answers, and that it leaves alone what it was given.
func latest(t *testing.T, l, want []scan.Found) {
	t.Helper()
	before := slices.Clone(whole(l))
	if got := scan.Latest(l); !slices.Equal(got, want) {
		t.Errorf("Latest(%v) = %v, want %v", l, got, want)
	}
	if !slices.Equal(whole(l), before) {
		t.Errorf("Latest changed %v to %v", before, whole(l))
	}
}

// orders calls do with l in each order.
func orders(l []scan.Found, do func(l []scan.Found)) {
	var from func(i int)
	from = func(i int) {
		if i == len(l) {
			do(slices.Clone(l))
			return
		}
		for j := i; j < len(l); j++ {
			l[i], l[j] = l[j], l[i]
			from(i + 1)
			l[i], l[j] = l[j], l[i]
		}
	}
	from(0)
}

func TestLatestOfNothing(t *testing.T) {
	latest(t, nil, nil)
	latest(t, []scan.Found{}, nil)
	latest(t, []scan.Found{at(1, 2, 3), at(1, 3, 4)}[:0], nil) // what lies in the spare room is not there
}

func TestLatestOfOne(t *testing.T) {
	for _, n := range ends {
		for _, f := range []scan.Found{at(n, 5, 6), at(5, n, 6), at(5, 6, n), at(n, n, n), {}} {
			latest(t, []scan.Found{f}, []scan.Found{f})
		}
	}
}

func TestLatestOfUnlikeNumbers(t *testing.T) {
	l := []scan.Found{at(4, 7, 1), at(4, 9, 8), at(4, 8, 0), at(4, -1, 2), at(4, 0, 3)}
	orders(l, func(l []scan.Found) { latest(t, l, []scan.Found{at(4, 9, 8)}) })
}

// What was written last is the latest, also where it lies behind all others, or has another kind, or more wrong.
func TestLatestLooksAtNothingElse(t *testing.T) {
	for _, f := range []scan.Found{
		{Page: 99, Mark: api.Mark{Kind: 1, Lpn: 3, Seq: 6}, Wrong: 8},
		{Page: 0, Mark: api.Mark{Kind: 2, Lpn: 3, Seq: 6}},
		{Page: -5, Mark: api.Mark{Kind: 1023, Lpn: 3, Seq: 6}, Wrong: -1},
	} {
		l := []scan.Found{f, {Page: 7, Mark: api.Mark{Kind: 5, Lpn: 3, Seq: 5}, Wrong: 2}, {Page: 6, Mark: api.Mark{Kind: -5, Lpn: 3, Seq: 4}, Wrong: 9}}
		orders(l, func(l []scan.Found) { latest(t, l, []scan.Found{f}) })
	}
}

func TestLatestOfTheSameNumber(t *testing.T) {
	l := []scan.Found{at(4, 7, 31), at(4, 7, 3), at(4, 7, 4), at(4, 7, 30), at(4, 6, 1)}
	orders(l, func(l []scan.Found) { latest(t, l, []scan.Found{at(4, 7, 3)}) })
	l = []scan.Found{at(4, 7, greatest), at(4, 7, 0), at(4, 7, least), at(4, 7, -1)}
	orders(l, func(l []scan.Found) { latest(t, l, []scan.Found{at(4, 7, least)}) })
}

// Of those that are alike in all that is asked, it is the first.
func TestLatestOfThoseAlike(t *testing.T) {
	a, b := at(4, 7, 3), at(4, 7, 3)
	b.Wrong, b.Mark.Kind = 5, 2
	latest(t, []scan.Found{a, b, b}, []scan.Found{a})
	latest(t, []scan.Found{b, a, a}, []scan.Found{b})
	latest(t, []scan.Found{at(4, 6, 0), b, a}, []scan.Found{b})
	latest(t, []scan.Found{a, a, a}, []scan.Found{a})
}

func TestLatestIsByLpn(t *testing.T) {
	l := []scan.Found{at(9, 1, 5), at(-3, 2, 4), at(0, 3, 3), at(9, 4, 2), at(-3, 1, 1)}
	orders(l, func(l []scan.Found) {
		latest(t, l, []scan.Found{at(-3, 2, 4), at(0, 3, 3), at(9, 4, 2)})
	})
	l = []scan.Found{at(greatest, 1, 5), at(least, 2, 4), at(0, 3, 3), at(-1, 4, 2), at(greatest-1, 4, 2)}
	orders(l, func(l []scan.Found) {
		latest(t, l, []scan.Found{at(least, 2, 4), at(-1, 4, 2), at(0, 3, 3), at(greatest-1, 4, 2), at(greatest, 1, 5)})
	})
}

// A number is greater than another one also where the way between them is beyond an int.
func TestLatestOfNumbersThatAreAny(t *testing.T) {
	for i, a := range ends {
		for j, b := range ends {
			later := at(1, a, 1)
			if j > i { // the ends rise
				later = at(1, b, 2)
			}
			latest(t, []scan.Found{at(1, a, 1), at(1, b, 2)}, []scan.Found{later})
			latest(t, []scan.Found{at(1, 1, a), at(1, 1, b)}, []scan.Found{at(1, 1, min(a, b))})
			want := []scan.Found{at(min(a, b), 1, 1), at(max(a, b), 1, 1)}
			if i == j {
				want = want[:1]
			}
			latest(t, []scan.Found{at(a, 1, 1), at(b, 1, 1)}, want)
		}
	}
}

// All lists of up to four, of two host pages, with two numbers and two places each.
func TestLatestOfAllShortLists(t *testing.T) {
	for _, n := range [][2]int{{0, 1}, {-1, 0}, {least, greatest}} {
		var each []scan.Found
		for i := range 8 {
			each = append(each, at(n[i&1], n[i>>1&1], n[i>>2&1]))
		}
		for many := range 5 {
			for which := range 1 << (3 * many) {
				l := make([]scan.Found, many)
				for i := range l {
					l[i] = each[which>>(3*i)&7]
					l[i].Wrong = i
				}
				latest(t, l, chosen(l))
			}
		}
	}
}

func TestLatestOfMany(t *testing.T) {
	d := &dice{18}
	for _, many := range []int{5, 40, 300, 2000} {
		for _, of := range []int{1, 2, 30, 1000, lpns} {
			for _, numbers := range []int{1, 3, 1 << 20} {
				l := make([]scan.Found, many, many+3)
				for i := range l {
					l[i] = at(d.below(of)-of/2, d.below(numbers)-numbers/2, d.below(500)-10)
					l[i].Wrong, l[i].Mark.Kind = d.below(9), d.below(1024)
				}
				want := chosen(l)
				latest(t, l, want)
				latest(t, want, want) // of each there is one already
				latest(t, scan.Latest(l), want)
			}
		}
	}
}

// Many that are alike: the first of them, however they are put in order.
func TestLatestOfManyAlike(t *testing.T) {
	l := make([]scan.Found, 1000)
	for i := range l {
		l[i] = at(i%3, 5, 7)
		l[i].Wrong = i
	}
	latest(t, l, l[:3])
}

// R4: what is answered shares nothing with what was handed in, nor with another answer.
func TestLatestAnswersNewMemory(t *testing.T) {
	for _, n := range []int{0, 1, 2, 5, 100} {
		l := make([]scan.Found, n, n+4)
		for i := range l {
			l[i] = at(i/2, i, i)
		}
		before, want := slices.Clone(whole(l)), chosen(l)
		first, second := scan.Latest(l), scan.Latest(l)
		for i := range whole(first) {
			whole(first)[i] = at(-9, -9, -9)
		}
		if !slices.Equal(whole(l), before) || !slices.Equal(second, want) {
			t.Errorf("of %d: the list became %v, the other answer %v", n, whole(l), second)
		}
		for i := range whole(l) {
			whole(l)[i] = at(-8, -8, -8)
		}
		if !slices.Equal(second, want) {
			t.Errorf("of %d: the answer became %v, want %v", n, second, want)
		}
	}
}

// What Block finds is what Latest is asked for.
func TestLatestOfWhatWasFound(t *testing.T) {
	c := made(t, small, nil)
	marks := [][]api.Mark{
		{{Kind: 1, Lpn: 3, Seq: 9}, {Kind: 1, Lpn: 1, Seq: 10}, {Kind: 2, Lpn: 3, Seq: 11}},
		{{Kind: 1, Lpn: 1, Seq: 5}, {Kind: 1, Lpn: 2, Seq: 6}, {Kind: 1, Lpn: 3, Seq: 7}, {Kind: 1, Lpn: 0, Seq: 8}},
	}
	var all []scan.Found
	for b, l := range marks {
		for p, m := range l {
			wrote(t, c, b, p, m)
		}
		s, err := scan.Block(tables, c, b)
		if err != api.OK {
			t.Fatalf("Block(%d): %v", b, err)
		}
		all = append(all, s.Found...)
	}
	latest(t, all, []scan.Found{
		{Page: 7, Mark: marks[1][3]},
		{Page: 1, Mark: marks[0][1]},
		{Page: 5, Mark: marks[1][1]},
		{Page: 2, Mark: marks[0][2]},
	})
	if n := scan.Greatest(all); n != 11 {
		t.Errorf("Greatest = %d, want 11", n)
	}
}
