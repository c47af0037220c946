package geo_test

import (
	"math"
	"slices"
	"testing"

	"blackboard/api"
	"blackboard/geo"
	"blackboard/pack"
)

// The bounds, in figures of their own.
const (
	leastBlocks, mostBlocks = 4, 64
	leastPages, mostPages   = 2, 32
	leastW, mostW           = 1, 4
	leastK, mostK           = 1, 64
	head                    = 8
	parity                  = 16
)

// middle is a geometry that may be, far from each bound.
var middle = api.Geo{Blocks: 8, Pages: 5, W: 3, K: 20}

// far are numbers far from all that may be: also such whose lowest 8, 16 or 32 bits would do, and such whose products are beyond an int.
var far = []int{
	math.MinInt, math.MinInt + 1, math.MinInt + 4, math.MinInt / 2, math.MinInt/3 - 4, -1 << 33, -1<<32 + 4, math.MinInt32, -1<<16 + 4, -256 + 4, -100, -64, -4,
	256, 256 + 4, 1<<16 + 4, math.MaxInt32, 1 << 31, 1 << 32, 1<<32 + 2, 1<<32 + 4, 1 << 33, 1 << 62, 1<<62 + 4, math.MaxInt/4 + 9, math.MaxInt/3 + 5, math.MaxInt / 2, math.MaxInt - 1, math.MaxInt,
}

// with are middle's numbers with one of them another.
func withBlocks(n int) api.Geo { g := middle; g.Blocks = n; return g }
func withPages(n int) api.Geo  { g := middle; g.Pages = n; return g }
func withW(n int) api.Geo      { g := middle; g.W = n; return g }
func withK(n int) api.Geo      { g := middle; g.K = n; return g }

// withs are these four.
func withs(n int) []api.Geo {
	return []api.Geo{withBlocks(n), withPages(n), withW(n), withK(n)}
}

// never are geometries that may not be, for each of the reasons.
func never() []api.Geo {
	l := []api.Geo{
		{},
		{Blocks: 8, Pages: 5},
		{W: 3, K: 20},
		{Blocks: 8, Pages: 5, W: -3, K: -20},
		{Blocks: -8, Pages: -5, W: 3, K: 20},
		{Blocks: -8, Pages: -5, W: -3, K: -20},
		{Blocks: 8, Pages: 5, W: 1, K: 8},
		{Blocks: 8, Pages: 5, W: 2, K: 4},
		{Blocks: 8, Pages: 5, W: 3, K: 2},
		{Blocks: 8, Pages: 5, W: 4, K: 2},
		{Blocks: 8, Pages: 5, W: 1, K: 1},
		{Blocks: 8, Pages: 5, W: 1 << 32, K: 1<<32 + 20},
		{Blocks: 1 << 32, Pages: 1 << 32, W: 3, K: 20},
		withBlocks(leastBlocks - 1), withBlocks(mostBlocks + 1),
		withPages(leastPages - 1), withPages(mostPages + 1),
		withW(leastW - 1), withW(mostW + 1),
		withK(leastK - 1), withK(mostK + 1),
	}
	for _, n := range append([]int{0, -1}, far...) {
		l = append(l, withs(n)...)
		l = append(l, api.Geo{Blocks: n, Pages: n, W: n, K: n})
	}
	return l
}

// some are geometries that may be: the least, the greatest, and ones between.
func some() []api.Geo {
	return []api.Geo{
		{Blocks: 4, Pages: 2, W: 1, K: 9},
		{Blocks: 4, Pages: 2, W: 3, K: 3},
		{Blocks: 4, Pages: 32, W: 4, K: 3},
		{Blocks: 64, Pages: 2, W: 2, K: 5},
		{Blocks: 64, Pages: 32, W: 4, K: 64},
		{Blocks: 7, Pages: 7, W: 1, K: 64},
		{Blocks: 5, Pages: 3, W: 2, K: 31},
		middle,
	}
}

// may tells that g may be, or that it may not.
func may(t *testing.T, g api.Geo, want bool) {
	t.Helper()
	if got := geo.May(g); got != want {
		t.Errorf("May(%+v) = %v", g, got)
	}
}

// is tells that a number of g is as it is wanted.
func is(t *testing.T, what string, g api.Geo, got, want int) {
	t.Helper()
	if got != want {
		t.Errorf("%s of %+v = %d, want %d", what, g, got, want)
	}
}

// lpns tells how many host pages there may be.
func lpns(t *testing.T, g api.Geo, spares, want int) {
	t.Helper()
	if got := geo.Lpns(g, spares); got != want {
		t.Errorf("Lpns(%+v, %d) = %d, want %d", g, spares, got, want)
	}
}

// placed tells that page number n is that page of that block, both ways.
func placed(t *testing.T, g api.Geo, n, block, page int) {
	t.Helper()
	if b, p, ok := geo.Place(g, n); b != block || p != page || !ok {
		t.Errorf("Place(%+v, %d) = %d, %d, %v, want %d, %d", g, n, b, p, ok, block, page)
	}
	if got, ok := geo.Number(g, block, page); got != n || !ok {
		t.Errorf("Number(%+v, %d, %d) = %d, %v, want %d", g, block, page, got, ok, n)
	}
}

// noPlace tells that there is no page number n, and that nothing is answered beside it.
func noPlace(t *testing.T, g api.Geo, n int) {
	t.Helper()
	if b, p, ok := geo.Place(g, n); b != 0 || p != 0 || ok {
		t.Errorf("Place(%+v, %d) = %d, %d, %v", g, n, b, p, ok)
	}
}

// noNumber tells that there is no such page, and that nothing is answered beside it.
func noNumber(t *testing.T, g api.Geo, block, page int) {
	t.Helper()
	if n, ok := geo.Number(g, block, page); n != 0 || ok {
		t.Errorf("Number(%+v, %d, %d) = %d, %v", g, block, page, n, ok)
	}
}

// P7.1: May.

func TestMayFromTheLeastToTheGreatest(t *testing.T) {
	for n, want := range map[int]bool{3: false, 4: true, 64: true, 65: false} {
		may(t, withBlocks(n), want)
	}
	for n, want := range map[int]bool{1: false, 2: true, 32: true, 33: false} {
		may(t, withPages(n), want)
	}
	for n, want := range map[int]bool{0: false, 1: true, 4: true, 5: false} {
		may(t, withW(n), want)
	}
	// K at its least, 1, stays below the head whatever W is (below): with four words 3 is the least that is above it.
	for n, want := range map[int]bool{0: false, 3: true, 64: true, 65: false} {
		may(t, api.Geo{Blocks: 8, Pages: 5, W: 4, K: n}, want)
	}
}

func TestMayOnlyAboveTheHead(t *testing.T) {
	for _, wk := range [][2]int{{1, 8}, {2, 4}, {4, 2}} { // just the head
		may(t, api.Geo{Blocks: 8, Pages: 5, W: wk[0], K: wk[1]}, false)
	}
	for _, wk := range [][2]int{{1, 9}, {3, 3}} { // one above it
		may(t, api.Geo{Blocks: 8, Pages: 5, W: wk[0], K: wk[1]}, true)
	}
	for w := 1; w <= mostW; w++ { // K at its least
		may(t, api.Geo{Blocks: 8, Pages: 5, W: w, K: leastK}, false)
	}
}

func TestMayOfEveryNumberAroundTheBounds(t *testing.T) {
	for blocks := -70; blocks <= 140; blocks++ {
		for pages := -40; pages <= 80; pages++ {
			want := blocks >= leastBlocks && blocks <= mostBlocks && pages >= leastPages && pages <= mostPages
			may(t, api.Geo{Blocks: blocks, Pages: pages, W: 3, K: 20}, want)
		}
	}
	for w := -10; w <= 20; w++ {
		for k := -70; k <= 140; k++ {
			want := w >= leastW && w <= mostW && k >= leastK && k <= mostK && w*k > head
			may(t, api.Geo{Blocks: 8, Pages: 5, W: w, K: k}, want)
		}
	}
}

func TestMayNotWithNumbersBelowNought(t *testing.T) {
	for w := -5; w < 0; w++ {
		for k := -65; k < 0; k++ { // their products are like those of what may be
			may(t, api.Geo{Blocks: 8, Pages: 5, W: w, K: k}, false)
		}
	}
	may(t, api.Geo{Blocks: -8, Pages: -5, W: 3, K: 20}, false)
	may(t, api.Geo{Blocks: -8, Pages: -5, W: -3, K: -20}, false)
}

func TestMayNotOfNoughts(t *testing.T) {
	may(t, api.Geo{}, false)
	for _, g := range withs(0) {
		may(t, g, false)
	}
}

func TestMayNotWithVeryGreatAndVerySmallNumbers(t *testing.T) {
	for _, n := range far {
		for _, g := range withs(n) {
			may(t, g, false)
		}
		for _, m := range far { // products beyond an int
			may(t, api.Geo{Blocks: n, Pages: m, W: 3, K: 20}, false)
			may(t, api.Geo{Blocks: 8, Pages: 5, W: n, K: m}, false)
			may(t, api.Geo{Blocks: n, Pages: m, W: n, K: m}, false)
		}
	}
	may(t, api.Geo{Blocks: 8, Pages: 5, W: 2, K: math.MaxInt/2 + 11}, false)
}

func TestSomeMayAndOthersNever(t *testing.T) {
	for _, g := range some() {
		may(t, g, true)
	}
	for _, g := range never() {
		may(t, g, false)
	}
}

// P7.1: what may not be.

func TestOfWhatMayNotBeAllIsNought(t *testing.T) {
	for _, g := range never() {
		is(t, "Cells", g, geo.Cells(g), 0)
		is(t, "Size", g, geo.Size(g), 0)
		is(t, "Count", g, geo.Count(g), 0)
		for _, n := range append([]int{0, 1, 7, 39, 40, -1}, far...) {
			noPlace(t, g, n)
			noNumber(t, g, n, 0)
			noNumber(t, g, 0, n)
			noNumber(t, g, n, n)
			lpns(t, g, n, 0)
		}
		noNumber(t, g, 1, 2)
	}
}

// P7.1: Cells, Size, Count.

func TestCellsAreTheDataAndTheParityOfEachWord(t *testing.T) {
	is(t, "Cells", middle, geo.Cells(middle), 108)
	least, greatest := some()[0], some()[4]
	is(t, "Cells", least, geo.Cells(least), 25)
	is(t, "Cells", greatest, geo.Cells(greatest), 320)
	for _, g := range words() {
		n := 0
		for range g.W {
			n += g.K + parity
		}
		is(t, "Cells", g, geo.Cells(g), n)
	}
}

// words are geometries with each W and each K that may be.
func words() []api.Geo {
	var l []api.Geo
	for w := leastW; w <= mostW; w++ {
		for k := leastK; k <= mostK; k++ {
			if w*k > head {
				l = append(l, api.Geo{Blocks: 9, Pages: 4, W: w, K: k})
			}
		}
	}
	return l
}

func TestSizeIsWhatGoesInBehindTheHead(t *testing.T) {
	is(t, "Size", middle, geo.Size(middle), 65) // 52 symbols
	// Symbols that are no whole number of bytes.
	for n, want := range map[int]int{9: 1, 10: 2, 11: 3, 12: 5, 13: 6, 14: 7, 15: 8, 16: 10} {
		g := api.Geo{Blocks: 8, Pages: 5, W: 1, K: n}
		is(t, "Size", g, geo.Size(g), want)
	}
	greatest := some()[4]
	is(t, "Size", greatest, geo.Size(greatest), 310)
	for _, g := range words() {
		n, symbols := geo.Size(g), g.W*g.K-head
		is(t, "Size", g, n, pack.Bytes(symbols))
		if 8*n > 10*symbols || 8*(n+1) <= 10*symbols {
			t.Errorf("Size(%+v) = %d: %d symbols hold more or less", g, n, symbols)
		}
	}
}

func TestCountIsThePagesOfAllBlocks(t *testing.T) {
	is(t, "Count", middle, geo.Count(middle), 40)
	for blocks := leastBlocks; blocks <= mostBlocks; blocks++ {
		for pages := leastPages; pages <= mostPages; pages++ {
			g, n := api.Geo{Blocks: blocks, Pages: pages, W: 2, K: 9}, 0
			for range blocks {
				n += pages
			}
			is(t, "Count", g, geo.Count(g), n)
		}
	}
}

// P7.1: Place, Number.

func TestPlaceAndNumberOfAFew(t *testing.T) {
	placed(t, middle, 0, 0, 0)
	placed(t, middle, 4, 0, 4)
	placed(t, middle, 5, 1, 0)
	placed(t, middle, 17, 3, 2)
	placed(t, middle, 39, 7, 4)
}

func TestPlaceAndNumberGoThroughAllPages(t *testing.T) {
	for _, g := range some() {
		n := 0
		for block := range g.Blocks {
			for page := range g.Pages {
				placed(t, g, n, block, page)
				n++
			}
		}
		is(t, "Count", g, geo.Count(g), n)
	}
}

func TestPlaceOnlyOfPagesThatThereAre(t *testing.T) {
	for _, g := range some() {
		last := g.Blocks*g.Pages - 1
		placed(t, g, 0, 0, 0)
		placed(t, g, last, g.Blocks-1, g.Pages-1)
		for n := 1; n <= 100; n++ {
			noPlace(t, g, last+n)
			noPlace(t, g, -n)
		}
		for _, n := range far {
			if n < 0 || n > last {
				noPlace(t, g, n)
			}
		}
	}
}

func TestNumberOnlyOfBlocksAndPagesThatThereAre(t *testing.T) {
	for _, g := range some() {
		for block := -3; block < g.Blocks+3; block++ {
			for page := -3; page < g.Pages+3; page++ {
				there := block >= 0 && block < g.Blocks && page >= 0 && page < g.Pages
				if !there { // also where the number would be another page's
					noNumber(t, g, block, page)
				}
			}
		}
		for _, n := range far {
			if n < 0 || n >= g.Blocks {
				noNumber(t, g, n, 0)
				noNumber(t, g, n, g.Pages-1)
				noNumber(t, g, n, n)
			}
			if n < 0 || n >= g.Pages {
				noNumber(t, g, 0, n)
				noNumber(t, g, g.Blocks-1, n)
			}
		}
	}
}

// P7.1: Lpns.

func TestLpnsOfAFew(t *testing.T) {
	lpns(t, api.Geo{Blocks: 8, Pages: 4, W: 3, K: 20}, 1, 8)
	lpns(t, api.Geo{Blocks: 8, Pages: 4, W: 3, K: 20}, 0, 10)
	lpns(t, api.Geo{Blocks: 64, Pages: 32, W: 4, K: 64}, 0, 976)
	lpns(t, api.Geo{Blocks: 4, Pages: 2, W: 1, K: 9}, 0, 1)
}

func TestLpnsOfOddPagesIsRoundedDown(t *testing.T) {
	for spares, want := range map[int]int{0: 12, 1: 10, 2: 7, 3: 5, 4: 2, 5: 0} { // 25, 20, 15, 10, 5 pages, none
		lpns(t, middle, spares, want)
	}
	lpns(t, api.Geo{Blocks: 4, Pages: 3, W: 3, K: 20}, 0, 1)
}

func TestLpnsUntilNothingIsLeft(t *testing.T) {
	for _, g := range some() {
		lpns(t, g, g.Blocks-4, g.Pages/2) // one block is left
		for spares := g.Blocks - 3; spares < 3*g.Blocks; spares++ {
			lpns(t, g, spares, 0)
		}
	}
}

func TestLpnsWithSparesBelowNought(t *testing.T) {
	for _, g := range some() {
		for spares := -1; spares > -100; spares-- {
			lpns(t, g, spares, 0)
		}
	}
}

func TestLpnsWithVeryManyAndVeryFewSpares(t *testing.T) {
	for _, g := range some() {
		for _, spares := range append(slices.Clone(far), math.MaxInt-2, math.MaxInt-3, math.MaxInt-64, math.MinInt+61, math.MinInt+65) {
			lpns(t, g, spares, 0)
		}
	}
}

func TestLpnsAreHalfThePagesOfTheBlocksThatAreLeft(t *testing.T) {
	for blocks := leastBlocks; blocks <= mostBlocks; blocks++ {
		for pages := leastPages; pages <= mostPages; pages++ {
			g := api.Geo{Blocks: blocks, Pages: pages, W: 2, K: 9}
			for spares := range blocks + 1 {
				n := 0
				for block := spares + 3; block < blocks; block++ {
					n += pages
				}
				lpns(t, g, spares, (n-n%2)/2)
			}
		}
	}
}

// What holds everywhere: an answer hangs on the arguments alone.

func TestAnswersHangOnTheArgumentsAlone(t *testing.T) {
	type answer struct {
		may                 bool
		cells, size, count  int
		block, page, number int
		lpns                int
	}
	of := func(g api.Geo) answer {
		block, page, _ := geo.Place(g, 7)
		number, _ := geo.Number(g, 1, 1)
		return answer{geo.May(g), geo.Cells(g), geo.Size(g), geo.Count(g), block, page, number, geo.Lpns(g, 0)}
	}
	var first []answer
	all := append(some(), never()...)
	for _, g := range all {
		first = append(first, of(g))
	}
	for i := range all { // once more, in another order
		at := len(all) - 1 - i
		if got := of(all[at]); got != first[at] {
			t.Errorf("%+v: %+v, then %+v", all[at], first[at], got)
		}
	}
}
