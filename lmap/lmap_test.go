package lmap_test

import (
	"math"
	"slices"
	"testing"

	"blackboard/api"
	"blackboard/lmap"
)

// The bounds, in figures of their own.
const (
	most     = 1048576
	least    = math.MinInt
	greatest = math.MaxInt
)

// far are numbers that are no lpn and no page of any map: also such whose lowest 20 or 32 bits would be one.
var far = []int{least, least + 1, least + 5, -1 << 62, -1 << 32, -1<<32 + 3, -most, -most + 3, -65, -64, -2, -1,
	most, most + 1, most + 3, 2 * most, 1 << 32, 1<<32 + 3, 1 << 62, 1<<62 + 5, greatest - 64, greatest - 5, greatest - 1, greatest}

// dice throw what looks like any number, the same ones for the same seed.
type dice struct{ seed uint32 }

// below is a number from 0 to n - 1.
func (d *dice) below(n int) int {
	d.seed = d.seed*1664525 + 1013904223
	return int(d.seed>>8) % n
}

// model is a map as one list: of each lpn the page it lies on, -1 for nowhere.
type model struct {
	lie   []int
	pages int
}

// modelOf is a map in which nothing lies.
func modelOf(lpns, pages int) model {
	return model{lie: slices.Repeat([]int{-1}, lpns), pages: pages}
}

// put is what Put is to answer, and does it.
func (m model) put(lpn, page int) (int, api.Errno) {
	if lpn < 0 || lpn >= len(m.lie) || page < 0 || page >= m.pages {
		return 0, api.ErrRange
	}
	if owner, ok := m.owner(page); ok && owner != lpn {
		return 0, api.ErrArg
	}
	was := m.lie[lpn]
	m.lie[lpn] = page
	if was == page {
		was = -1
	}
	return was, api.OK
}

// get is what Get is to answer.
func (m model) get(lpn int) (int, bool) {
	if lpn < 0 || lpn >= len(m.lie) || m.lie[lpn] == -1 {
		return 0, false
	}
	return m.lie[lpn], true
}

// owner looks at each lpn.
func (m model) owner(page int) (int, bool) {
	lpn := slices.Index(m.lie, page)
	if page < 0 || lpn < 0 {
		return 0, false
	}
	return lpn, true
}

// drop is what Drop is to answer, and does it.
func (m model) drop(lpn int) (int, bool) {
	page, ok := m.get(lpn)
	if ok {
		m.lie[lpn] = -1
	}
	return page, ok
}

// count looks at each lpn: no two lie on one page.
func (m model) count(from, to int) int {
	n := 0
	for _, page := range m.lie {
		if page >= 0 && page >= from && page < to {
			n++
		}
	}
	return n
}

// made is a map of these sizes.
func made(t *testing.T, lpns, pages int) *lmap.Map {
	t.Helper()
	m, err := lmap.New(lpns, pages)
	if m == nil || err != api.OK {
		t.Fatalf("New(%d, %d) = %v, %v, want a map", lpns, pages, m, err)
	}
	return m
}

// every is the numbers from from on below to.
func every(from, to int) []int {
	var l []int
	for i := from; i < to; i++ {
		l = append(l, i)
	}
	return l
}

// put tells what Put answers.
func put(t *testing.T, m *lmap.Map, lpn, page, want int, wrong api.Errno) {
	t.Helper()
	if got, err := m.Put(lpn, page); got != want || err != wrong {
		t.Errorf("Put(%d, %d) = %d, %v, want %d, %v", lpn, page, got, err, want, wrong)
	}
}

// get tells what Get answers.
func get(t *testing.T, m *lmap.Map, lpn, want int, is bool) {
	t.Helper()
	if got, ok := m.Get(lpn); got != want || ok != is {
		t.Errorf("Get(%d) = %d, %v, want %d, %v", lpn, got, ok, want, is)
	}
}

// owner tells what Owner answers.
func owner(t *testing.T, m *lmap.Map, page, want int, is bool) {
	t.Helper()
	if got, ok := m.Owner(page); got != want || ok != is {
		t.Errorf("Owner(%d) = %d, %v, want %d, %v", page, got, ok, want, is)
	}
}

// drop tells what Drop answers.
func drop(t *testing.T, m *lmap.Map, lpn, want int, is bool) {
	t.Helper()
	if got, ok := m.Drop(lpn); got != want || ok != is {
		t.Errorf("Drop(%d) = %d, %v, want %d, %v", lpn, got, ok, want, is)
	}
}

// count tells what Count answers.
func count(t *testing.T, m *lmap.Map, from, to, want int) {
	t.Helper()
	if got := m.Count(from, to); got != want {
		t.Errorf("Count(%d, %d) = %d, want %d", from, to, got, want)
	}
}

// many tells what Many answers.
func many(t *testing.T, m *lmap.Map, want int) {
	t.Helper()
	if got := m.Many(); got != want {
		t.Errorf("Many() = %d, want %d", got, want)
	}
}

// holds tells that m answers what w does, of each lpn and each page, beside them, and of what there is none of.
func holds(t *testing.T, m *lmap.Map, w model) {
	t.Helper()
	lying := 0
	for _, lpn := range append(every(-3, len(w.lie)+3), far...) {
		page, is := w.get(lpn)
		get(t, m, lpn, page, is)
		if is {
			lying++
		}
	}
	many(t, m, lying)
	for _, page := range append(every(-3, w.pages+3), far...) {
		lpn, is := w.owner(page)
		owner(t, m, page, lpn, is)
		count(t, m, page, greatest, w.count(page, greatest))
		count(t, m, least, page, w.count(least, page))
		if is {
			count(t, m, page, page+1, 1)
		}
	}
}

// P15.1: the example.

func TestExample(t *testing.T) {
	m := made(t, 8, 16)
	put(t, m, 3, 7, -1, api.OK)
	put(t, m, 3, 8, 7, api.OK)
}

// P15.1: all of it, over calls in any order, held against a list.

func TestAnyCalls(t *testing.T) {
	d := &dice{seed: 15}
	for _, size := range [][2]int{{0, 0}, {0, 5}, {5, 0}, {1, 1}, {1, 6}, {6, 1}, {7, 7}, {5, 9}, {9, 5}, {20, 64}, {64, 65}, {70, 130}, {130, 70}} {
		m, w := made(t, size[0], size[1]), modelOf(size[0], size[1])
		for range 300 {
			lpn, page := d.below(size[0]+4)-2, d.below(size[1]+4)-2
			if d.below(3) == 0 {
				want, is := w.drop(lpn)
				drop(t, m, lpn, want, is)
			} else {
				want, err := w.put(lpn, page)
				put(t, m, lpn, page, want, err)
			}
			holds(t, m, w)
			from, to := d.below(size[1]+8)-4, d.below(size[1]+8)-4
			count(t, m, from, to, w.count(from, to))
		}
	}
}

// All calls that a map of two and three can be given, four in a row.
func TestAllCallsOfFew(t *testing.T) {
	const lpns, pages, calls = 2, 3, 4
	const kinds = lpns*pages + lpns
	all := 1
	for range calls {
		all *= kinds
	}
	for which := range all {
		m, w := made(t, lpns, pages), modelOf(lpns, pages)
		for rest, n := which, 0; n < calls; rest, n = rest/kinds, n+1 {
			call := rest % kinds
			if call < lpns*pages {
				want, err := w.put(call/pages, call%pages)
				put(t, m, call/pages, call%pages, want, err)
			} else {
				want, is := w.drop(call - lpns*pages)
				drop(t, m, call-lpns*pages, want, is)
			}
			both(t, m, w)
		}
	}
}

// both tells that m answers what w does, of its lpns and its pages alone.
func both(t *testing.T, m *lmap.Map, w model) {
	t.Helper()
	for lpn := range w.lie {
		page, is := w.get(lpn)
		get(t, m, lpn, page, is)
	}
	for page := range w.pages {
		lpn, is := w.owner(page)
		owner(t, m, page, lpn, is)
	}
	many(t, m, w.count(0, w.pages))
	count(t, m, 0, w.pages, w.count(0, w.pages))
}

func TestAnyCallsOnMost(t *testing.T) {
	d := &dice{seed: 51}
	m := made(t, most, most)
	at, whose := map[int]int{}, map[int]int{}
	for range 20000 {
		lpn, page := d.below(most), d.below(most)
		if d.below(4) == 0 {
			lpn = d.below(200)
		}
		by, taken := whose[page]
		was, lay := at[lpn]
		switch {
		case taken && by != lpn:
			put(t, m, lpn, page, 0, api.ErrArg)
		case lay:
			put(t, m, lpn, page, was, api.OK)
			delete(whose, was)
			at[lpn], whose[page] = page, lpn
		default:
			put(t, m, lpn, page, -1, api.OK)
			at[lpn], whose[page] = page, lpn
		}
	}
	for lpn, page := range at {
		get(t, m, lpn, page, true)
		owner(t, m, page, lpn, true)
	}
	many(t, m, len(at))
	count(t, m, 0, most, len(at))
}

// R3, R5: what is asked changes nothing, and is answered the same again.

func TestAskingChangesNothing(t *testing.T) {
	for _, size := range [][2]int{{0, 0}, {1, 1}, {12, 30}, {30, 12}, {66, 131}} {
		m, w := made(t, size[0], size[1]), modelOf(size[0], size[1])
		for lpn := 0; lpn < min(size[0], size[1]); lpn += 2 {
			put(t, m, lpn, size[1]-1-lpn, -1, api.OK)
			w.put(lpn, size[1]-1-lpn)
		}
		for range 3 {
			holds(t, m, w)
		}
	}
}

func TestSameCallsSameAnswers(t *testing.T) {
	a, b := made(t, 50, 80), made(t, 50, 80)
	d := &dice{seed: 6}
	for range 5000 {
		lpn, page := d.below(54)-2, d.below(84)-2
		x, one := a.Put(lpn, page)
		if y, other := b.Put(lpn, page); x != y || one != other {
			t.Fatalf("Put(%d, %d) = %d, %v, then %d, %v", lpn, page, x, one, y, other)
		}
		lpn = d.below(54) - 2
		x, is := a.Get(lpn)
		if y, ok := b.Get(lpn); x != y || is != ok {
			t.Fatalf("Get(%d) = %d, %v, then %d, %v", lpn, x, is, y, ok)
		}
		x, is = a.Owner(page)
		if y, ok := b.Owner(page); x != y || is != ok {
			t.Fatalf("Owner(%d) = %d, %v, then %d, %v", page, x, is, y, ok)
		}
		x, is = a.Drop(lpn)
		if y, ok := b.Drop(lpn); x != y || is != ok {
			t.Fatalf("Drop(%d) = %d, %v, then %d, %v", lpn, x, is, y, ok)
		}
		if x, y := a.Count(lpn, page), b.Count(lpn, page); x != y {
			t.Fatalf("Count(%d, %d) = %d, then %d", lpn, page, x, y)
		}
		if x, y := a.Many(), b.Many(); x != y {
			t.Fatalf("Many() = %d, then %d", x, y)
		}
	}
}

// R5: two maps know nothing of one another.

func TestTwoMaps(t *testing.T) {
	a, b := made(t, 10, 20), made(t, 10, 20)
	one, other := modelOf(10, 20), modelOf(10, 20)
	for lpn := range 10 {
		put(t, a, lpn, lpn, -1, api.OK)
		one.put(lpn, lpn)
	}
	holds(t, a, one)
	holds(t, b, other)
	for lpn := range 10 {
		put(t, b, lpn, 9-lpn, -1, api.OK) // pages that a has, too
		other.put(lpn, 9-lpn)
	}
	holds(t, a, one)
	holds(t, b, other)
	for lpn := 0; lpn < 10; lpn += 3 {
		drop(t, a, lpn, lpn, true)
		one.drop(lpn)
		holds(t, a, one)
		holds(t, b, other)
	}
	holds(t, made(t, 10, 20), modelOf(10, 20))
}

// R7: methods of nothing.

func TestNil(t *testing.T) {
	var none *lmap.Map
	for range 2 {
		for _, i := range append(every(-3, 70), far...) {
			put(t, none, i, 0, 0, api.ErrArg)
			put(t, none, 0, i, 0, api.ErrArg)
			put(t, none, i, i, 0, api.ErrArg)
			nowhere(t, none, i)
		}
		many(t, none, 0)
	}
	if none != nil {
		t.Errorf("nil became %v", none)
	}
}

// A map that nobody made has no lpns and no pages.
func TestZeroMap(t *testing.T) {
	for range 2 {
		m := new(lmap.Map)
		for _, i := range append(every(-3, 70), far...) {
			put(t, m, i, 0, 0, api.ErrRange)
			put(t, m, 0, i, 0, api.ErrRange)
			put(t, m, i, i, 0, api.ErrRange)
			nowhere(t, m, i)
		}
		many(t, m, 0)
	}
}

// nowhere tells that i, as an lpn and as a page, is nothing to m.
func nowhere(t *testing.T, m *lmap.Map, i int) {
	t.Helper()
	get(t, m, i, 0, false)
	owner(t, m, i, 0, false)
	drop(t, m, i, 0, false)
	count(t, m, i, greatest, 0)
	count(t, m, least, i, 0)
	count(t, m, 0, i, 0)
}
