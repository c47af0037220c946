package chip_test

import (
	"math"
	"slices"
	"testing"

	"blackboard/api"
	"blackboard/chip"
)

// The bounds and what may befall, in figures of their own.
const (
	fail = 1
	cut  = 2

	out    = 9 // symbols of each codeword that a program that fails leaves out
	parity = 16
	reach  = 1000
)

// nought is the symbol that a point at nought is nearest to: its own is 1 + 1i.
const nought = 16<<5 | 16

// small is the geometry of most tests: two codewords of 21 symbols a page.
var small = api.Geo{Blocks: 5, Pages: 3, W: 2, K: 5}

// sizes are geometries with each number of codewords, the least and the greatest among them.
var sizes = []api.Geo{
	{Blocks: 4, Pages: 2, W: 1, K: 9},
	small,
	{Blocks: 6, Pages: 5, W: 3, K: 3},
	{Blocks: 4, Pages: 3, W: 4, K: 20},
	{Blocks: 64, Pages: 32, W: 4, K: 64},
}

// far are numbers of no block, page or cell: also such whose lowest 8, 16 or 32 bits would do.
var far = []int{math.MinInt, math.MinInt + 1, -1 << 32, -1<<32 + 1, math.MinInt32, -1<<16 + 1, -256, -255, -64, -2, -1, 64, 256, 257, 1 << 16, 1<<16 + 1, 1 << 31, 1 << 32, 1<<32 + 1, 1 << 62, math.MaxInt - 1, math.MaxInt}

// dice throw what looks like any number, the same ones for the same seed.
type dice struct{ seed uint32 }

// below is a number from 0 to n - 1.
func (d *dice) below(n int) int {
	d.seed = d.seed*1664525 + 1013904223
	return int(d.seed>>8) % n
}

// cellsOf is how many cells a page has.
func cellsOf(g api.Geo) int {
	return g.W * (g.K + parity)
}

// symbols are a page's, other ones for another seed.
func symbols(g api.Geo, seed uint32) []uint16 {
	d := &dice{seed: seed}
	s := make([]uint16, cellsOf(g))
	for i := range s {
		s[i] = uint16(d.below(1024))
	}
	return s
}

// points are those of the first keep of s, and noughts.
func points(s []uint16, keep int) []complex128 {
	p := make([]complex128, len(s))
	for i, x := range s {
		if i < keep {
			p[i] = complex(float64(2*int(x>>5)-31), float64(2*int(x&31)-31))
		}
	}
	return p
}

// made is what New makes.
func made(t *testing.T, g api.Geo, bad []int, l ...api.Fate) *chip.Chip {
	t.Helper()
	c, err := chip.New(g, bad, l)
	if c == nil || err != api.OK {
		t.Fatalf("New(%+v, %v, %v) = %v, %v", g, bad, l, c, err)
	}
	return c
}

// is tells that an answer is as it is wanted.
func is[A comparable](t *testing.T, what string, got, want A) {
	t.Helper()
	if got != want {
		t.Errorf("%s = %v, want %v", what, got, want)
	}
}

// programmed tells what Program answers.
func programmed(t *testing.T, c *chip.Chip, block, page int, s []uint16, want api.Errno) {
	t.Helper()
	if got := c.Program(block, page, s); got != want {
		t.Errorf("Program(%d, %d, %d symbols) = %v, want %v", block, page, len(s), got, want)
	}
}

// erased tells what Erase answers.
func erased(t *testing.T, c *chip.Chip, block int, want api.Errno) {
	t.Helper()
	if got := c.Erase(block); got != want {
		t.Errorf("Erase(%d) = %v, want %v", block, got, want)
	}
}

// noted tells what Mark answers.
func noted(t *testing.T, c *chip.Chip, block int, want api.Errno) {
	t.Helper()
	if got := c.Mark(block); got != want {
		t.Errorf("Mark(%d) = %v, want %v", block, got, want)
	}
}

// isMarked tells what Marked answers: false beside an error.
func isMarked(t *testing.T, c *chip.Chip, block int, want bool, err api.Errno) {
	t.Helper()
	if got, e := c.Marked(block); got != want || e != err {
		t.Errorf("Marked(%d) = %v, %v, want %v, %v", block, got, e, want, err)
	}
}

// sensed tells what Sense answers where all is well.
func sensed(t *testing.T, c *chip.Chip, block, page int, want []complex128) {
	t.Helper()
	if got, err := c.Sense(block, page); !slices.Equal(got, want) || err != api.OK {
		t.Errorf("Sense(%d, %d) = %v, %v, want %v", block, page, got, err, want)
	}
}

// notSensed tells that Sense answers that error, and nothing else.
func notSensed(t *testing.T, c *chip.Chip, block, page int, want api.Errno) {
	t.Helper()
	if got, err := c.Sense(block, page); len(got) != 0 || err != want {
		t.Errorf("Sense(%d, %d) = %d points, %v, want none, %v", block, page, len(got), err, want)
	}
}

// drifted tells what Drift answers.
func drifted(t *testing.T, c *chip.Chip, block, page, i int, by complex128, want bool) {
	t.Helper()
	if got := c.Drift(block, page, i, by); got != want {
		t.Errorf("Drift(%d, %d, %d, %v) = %v", block, page, i, by, got)
	}
}

// counted tells how many operations there were, and how many of them were refused.
func counted(t *testing.T, c *chip.Chip, ops, refused int) {
	t.Helper()
	is(t, "Ops()", c.Ops(), ops)
	is(t, "Refused()", c.Refused(), refused)
}

// stand is all that can be seen of a device but for its numbers.
type stand struct {
	pages          [][]complex128
	erases         []int
	marked, broken []bool
	worst          int
	dark           bool
}

// look is how a device stands. A copy is asked, so that it hears nothing of it.
func look(c *chip.Chip) stand {
	g, c := c.Geo(), c.Copy()
	s := stand{worst: c.Worst(), dark: dark(c)}
	c.Power()
	for b := range g.Blocks {
		for p := range g.Pages {
			var page []complex128
			lit(c, func() (err api.Errno) { page, err = c.Sense(b, p); return err })
			s.pages = append(s.pages, page)
		}
		var m bool
		lit(c, func() (err api.Errno) { m, err = c.Marked(b); return err })
		s.marked = append(s.marked, m)
		s.erases, s.broken = append(s.erases, c.Erases(b)), append(s.broken, c.Broken(b))
	}
	return s
}

// lit asks till the power stays: no more often than there are fates that may be left.
func lit(c *chip.Chip, ask func() api.Errno) {
	for range 300 {
		if ask() != api.ErrPower {
			return
		}
		c.Power()
	}
}

// dark tells whether the power is gone: then what is asked doesn't count.
func dark(c *chip.Chip) bool {
	n := c.Ops()
	c.Marked(0)
	return c.Ops() == n
}

// same tells that a device stands as it is wanted.
func same(t *testing.T, what string, got, want stand) {
	t.Helper()
	for i, p := range want.pages {
		if i >= len(got.pages) || !slices.Equal(got.pages[i], p) {
			t.Errorf("%s: page number %d of %d is not %v", what, i, len(got.pages), p)
			break
		}
	}
	if !slices.Equal(got.erases, want.erases) || !slices.Equal(got.marked, want.marked) || !slices.Equal(got.broken, want.broken) {
		t.Errorf("%s: the blocks are %v %v %v, want %v %v %v", what, got.erases, got.marked, got.broken, want.erases, want.marked, want.broken)
	}
	if got.worst != want.worst || got.dark != want.dark {
		t.Errorf("%s: %d, %v, want %d, %v", what, got.worst, got.dark, want.worst, want.dark)
	}
}

// fresh is how a device stands that was just made.
func fresh(g api.Geo, bad ...int) stand {
	s := stand{erases: make([]int, g.Blocks), marked: make([]bool, g.Blocks), broken: make([]bool, g.Blocks)}
	for range g.Blocks * g.Pages {
		s.pages = append(s.pages, make([]complex128, cellsOf(g)))
	}
	for _, b := range bad {
		s.marked[b] = true
	}
	return s
}

// P10.1: New.

// refused tells that New refuses what is handed in, and answers nothing else.
func refused(t *testing.T, what string, g api.Geo, bad []int, l []api.Fate) {
	t.Helper()
	if c, err := chip.New(g, bad, l); c != nil || err != api.ErrArg {
		t.Errorf("%s: New(%+v, %v, %v) = %v, %v, want nil, %v", what, g, bad, l, c, err, api.ErrArg)
	}
}

// never are geometries that may not be.
var never = []api.Geo{
	{},
	{Blocks: 3, Pages: 3, W: 2, K: 5}, {Blocks: 65, Pages: 3, W: 2, K: 5}, {Blocks: -5, Pages: 3, W: 2, K: 5},
	{Blocks: 5, Pages: 1, W: 2, K: 5}, {Blocks: 5, Pages: 33, W: 2, K: 5}, {Blocks: 5, Pages: 1<<32 + 3, W: 2, K: 5},
	{Blocks: 5, Pages: 3, W: 0, K: 20}, {Blocks: 5, Pages: 3, W: 5, K: 5}, {Blocks: 5, Pages: 3, W: -2, K: -5},
	{Blocks: 5, Pages: 3, W: 2, K: 0}, {Blocks: 5, Pages: 3, W: 2, K: 65}, {Blocks: 5, Pages: 3, W: 2, K: 4}, {Blocks: 5, Pages: 3, W: 1, K: 8},
	{Blocks: math.MaxInt, Pages: math.MaxInt, W: math.MaxInt, K: math.MaxInt},
}

// neverFates are lists of fates that may not be.
func neverFates() [][]api.Fate {
	many := make([]api.Fate, 257)
	for i := range many {
		many[i] = api.Fate{At: i, Do: fail}
	}
	return [][]api.Fate{
		many,
		{{At: -1, Do: fail}}, {{At: 1<<40 + 1, Do: cut}}, {{At: 1}}, {{At: 1, Do: 3}}, {{At: 1, Do: cut, Keep: -1}},
		{{At: 1, Do: fail}, {At: 1, Do: cut}}, {{At: 2, Do: fail}, {At: 1, Do: cut}, {At: 2, Do: fail}},
	}
}

func TestNewRefusesGeometriesThatMayNotBe(t *testing.T) {
	for _, g := range never {
		refused(t, "geometry", g, nil, nil)
		refused(t, "geometry", g, []int{0}, []api.Fate{{At: 1, Do: fail}})
	}
	for _, g := range sizes {
		made(t, g, nil)
	}
}

func TestNewRefusesBadBlocksThatAreNone(t *testing.T) {
	for _, g := range sizes {
		for _, b := range append([]int{-1, g.Blocks, g.Blocks + 1}, far...) {
			if b >= 0 && b < g.Blocks {
				continue
			}
			for _, bad := range [][]int{{b}, {0, b}, {b, 0}, {1, b, 2}, {b, b}} {
				refused(t, "bad block", g, bad, nil)
			}
		}
		made(t, g, []int{0, g.Blocks - 1})
	}
}

func TestNewRefusesFatesThatMayNotBe(t *testing.T) {
	for _, l := range neverFates() {
		refused(t, "fates", small, nil, l)
		refused(t, "fates", small, []int{0}, l)
	}
	made(t, small, nil, neverFates()[0][:256]...)
	made(t, small, nil, api.Fate{At: 1 << 40, Do: cut, Keep: math.MaxInt}, api.Fate{Do: fail})
}

func TestNewRefusesWhereMoreIsWrong(t *testing.T) {
	for _, g := range never {
		for _, l := range neverFates() {
			refused(t, "geometry, fates", g, nil, l)
			refused(t, "all", g, []int{-1}, l)
		}
		refused(t, "geometry, bad block", g, []int{-1}, nil)
		refused(t, "geometry, bad block", g, []int{g.Blocks}, nil)
	}
	for _, l := range neverFates() {
		refused(t, "bad block, fates", small, []int{-1}, l)
		refused(t, "bad block, fates", small, []int{1, 5}, l)
	}
}

func TestNewIsBlankAndMarkedWhereItIsBad(t *testing.T) {
	for _, g := range sizes {
		for _, bad := range [][]int{nil, {}, {0}, {g.Blocks - 1}, {2, 0}, {1, 1}, {3, 1, 3, 3}} {
			c := made(t, g, bad)
			is(t, "Geo()", c.Geo(), g)
			counted(t, c, 0, 0)
			same(t, "new", look(c), fresh(g, bad...))
			counted(t, c, 0, 0)
		}
	}
	all := []int{4, 2, 0, 1, 3}
	same(t, "all are bad", look(made(t, small, all)), fresh(small, all...))
}

func TestNewBlocksCanBeProgrammedButForTheBad(t *testing.T) {
	s := symbols(small, 1)
	c := made(t, small, []int{3, 1})
	for b, want := range []api.Errno{api.OK, api.ErrMarked, api.OK, api.ErrMarked, api.OK} {
		isMarked(t, c, b, want == api.ErrMarked, api.OK)
		programmed(t, c, b, 0, s, want)
		erased(t, c, b, want)
	}
}

func TestNewKeepsNotWhatIsHandedIn(t *testing.T) {
	bad := append(make([]int, 0, 4), 2, 4)
	l := append(make([]api.Fate, 0, 4), api.Fate{At: 1, Do: cut}, api.Fate{At: 0, Do: fail})
	c := made(t, small, bad, l...)
	if !slices.Equal(bad[:4], []int{2, 4, 0, 0}) || !slices.Equal(l[:4], []api.Fate{{At: 1, Do: cut}, {At: 0, Do: fail}, {}, {}}) {
		t.Errorf("New has changed %v, %v", bad[:4], l[:4])
	}
	bad[0], bad[1] = 0, 1
	l[0], l[1] = api.Fate{At: 7, Do: fail}, api.Fate{At: 8, Do: fail}
	same(t, "new", look(c), fresh(small, 2, 4))
	erased(t, c, 0, api.ErrErase)
	erased(t, c, 1, api.ErrPower)
	c.Power()
	for range 10 {
		erased(t, c, 1, api.OK)
	}
}

func TestNewLeavesWhatItRefuses(t *testing.T) {
	bad, l := []int{2, -1, 4}, []api.Fate{{At: 9, Do: fail}, {At: 3, Do: cut}, {At: 9, Do: fail}}
	refused(t, "all", small, bad, l)
	refused(t, "fates", small, bad[:1], l)
	if !slices.Equal(bad, []int{2, -1, 4}) || !slices.Equal(l, []api.Fate{{At: 9, Do: fail}, {At: 3, Do: cut}, {At: 9, Do: fail}}) {
		t.Errorf("New has changed %v, %v", bad, l)
	}
}

func TestDevicesHearNothingOfOneAnother(t *testing.T) {
	a, b := made(t, small, nil), made(t, small, nil)
	programmed(t, a, 0, 0, symbols(small, 1), api.OK)
	erased(t, a, 1, api.OK)
	noted(t, a, 2, api.OK)
	noted(t, a, 9, api.ErrArg)
	same(t, "the other", look(b), fresh(small))
	counted(t, b, 0, 0)
}

// P10.1: operations, their numbers and errors.

// ways are all operations, each on a device with a fate on one of them: block 0 can be programmed, block 1 is marked, block 2 is broken, 3 has one page. They answer their error.
var ways = []struct {
	name string
	ask  func(c *chip.Chip) api.Errno
	want api.Errno
}{
	{"Sense", func(c *chip.Chip) api.Errno { _, err := c.Sense(3, 0); return err }, api.OK},
	{"Sense a blank page", func(c *chip.Chip) api.Errno { _, err := c.Sense(4, 2); return err }, api.OK},
	{"Sense no block", func(c *chip.Chip) api.Errno { _, err := c.Sense(5, 0); return err }, api.ErrArg},
	{"Sense no page", func(c *chip.Chip) api.Errno { _, err := c.Sense(0, 3); return err }, api.ErrArg},
	{"Program", func(c *chip.Chip) api.Errno { return c.Program(0, 0, symbols(small, 7)) }, api.OK},
	{"Program no block", func(c *chip.Chip) api.Errno { return c.Program(-1, 0, symbols(small, 7)) }, api.ErrArg},
	{"Program no page", func(c *chip.Chip) api.Errno { return c.Program(0, -1, symbols(small, 7)) }, api.ErrArg},
	{"Program nothing", func(c *chip.Chip) api.Errno { return c.Program(0, 0, nil) }, api.ErrSize},
	{"Program no symbol", func(c *chip.Chip) api.Errno {
		return c.Program(0, 0, slices.Repeat([]uint16{1024}, cellsOf(small)))
	}, api.ErrArg},
	{"Program a marked block", func(c *chip.Chip) api.Errno { return c.Program(1, 0, symbols(small, 7)) }, api.ErrMarked},
	{"Program a page again", func(c *chip.Chip) api.Errno { return c.Program(3, 0, symbols(small, 7)) }, api.ErrOrder},
	{"Program ahead", func(c *chip.Chip) api.Errno { return c.Program(0, 1, symbols(small, 7)) }, api.ErrOrder},
	{"Program a broken block", func(c *chip.Chip) api.Errno { return c.Program(2, 0, symbols(small, 7)) }, api.ErrProgram},
	{"Erase", func(c *chip.Chip) api.Errno { return c.Erase(3) }, api.OK},
	{"Erase no block", func(c *chip.Chip) api.Errno { return c.Erase(5) }, api.ErrArg},
	{"Erase a marked block", func(c *chip.Chip) api.Errno { return c.Erase(1) }, api.ErrMarked},
	{"Erase a broken block", func(c *chip.Chip) api.Errno { return c.Erase(2) }, api.ErrErase},
	{"Mark", func(c *chip.Chip) api.Errno { return c.Mark(4) }, api.OK},
	{"Mark a marked block", func(c *chip.Chip) api.Errno { return c.Mark(1) }, api.OK},
	{"Mark a broken block", func(c *chip.Chip) api.Errno { return c.Mark(2) }, api.OK},
	{"Mark no block", func(c *chip.Chip) api.Errno { return c.Mark(-1) }, api.ErrArg},
	{"Marked", func(c *chip.Chip) api.Errno { _, err := c.Marked(1); return err }, api.OK},
	{"Marked no block", func(c *chip.Chip) api.Errno { _, err := c.Marked(5); return err }, api.ErrArg},
}

// begun is a device as ways need it, with more fates: two operations are behind it.
func begun(t *testing.T, more ...api.Fate) *chip.Chip {
	t.Helper()
	c := made(t, small, []int{1}, append([]api.Fate{{At: 0, Do: fail}}, more...)...)
	erased(t, c, 2, api.ErrErase)
	programmed(t, c, 3, 0, symbols(small, 3), api.OK)
	counted(t, c, 2, 0)
	return c
}

// refusal tells whether an error is one of those that Refused counts.
func refusal(err api.Errno) bool {
	return err == api.ErrArg || err == api.ErrSize || err == api.ErrMarked || err == api.ErrOrder
}

// one is 1 where it holds.
func one(holds bool) int {
	if holds {
		return 1
	}
	return 0
}

func TestEachOperationCounts(t *testing.T) {
	for _, w := range ways {
		c := begun(t)
		is(t, w.name, w.ask(c), w.want)
		counted(t, c, 3, one(refusal(w.want)))
	}
}

func TestEachOperationHasItsNumber(t *testing.T) {
	for _, w := range ways {
		for _, v := range ways { // the one behind it has the next one
			c := begun(t, api.Fate{At: 3, Do: cut})
			w.ask(c)
			d := begun(t)
			w.ask(d)
			want := v.ask(d) // if nothing befalls it
			if want == api.OK {
				want = api.ErrPower
			}
			is(t, w.name+", "+v.name, v.ask(c), want)
			is(t, "power gone behind "+w.name+", "+v.name, dark(c.Copy()), want == api.ErrPower)
		}
	}
}

func TestNumbersGoOnFromNought(t *testing.T) {
	for n := range 12 {
		c := made(t, small, nil, api.Fate{At: n, Do: cut})
		for i := range 20 {
			want := api.OK
			if i == n {
				want = api.ErrPower
			}
			is(t, "Ops()", c.Ops(), i)
			isMarked(t, c, 2, false, want)
			c.Power()
		}
	}
}

func TestTheOneInWhichThePowerGoesCounts(t *testing.T) {
	for _, w := range ways {
		if w.want != api.OK {
			continue
		}
		c := begun(t, api.Fate{At: 2, Do: cut, Keep: 2})
		is(t, w.name, w.ask(c), api.ErrPower)
		counted(t, c, 3, 0)
		c.Power()
		counted(t, c, 3, 0)
		isMarked(t, c, 0, false, api.OK) // its fate befell it once
		counted(t, c, 4, 0)
	}
}

func TestWithoutPowerNothingCountsNorIsDone(t *testing.T) {
	c := begun(t, api.Fate{At: 2, Do: cut}, api.Fate{At: 3, Do: fail})
	notSensed(t, c, 0, 0, api.ErrPower)
	before := look(c)
	is(t, "the power is gone", before.dark, true)
	for range 3 {
		for _, w := range ways { // also those with an error of their own
			is(t, w.name, w.ask(c), api.ErrPower)
			counted(t, c, 3, 0)
		}
	}
	same(t, "without power", look(c), before)
	c.Power()
	erased(t, c, 4, api.ErrErase) // the next number's fate was still there
	counted(t, c, 4, 0)
}

// bits tells whether bit i of n is set.
func bits(n, i int) bool {
	return n>>i&1 == 1
}

// troubled is a device whose block 0 has a programmed page, is broken, is marked, and whose power is gone, as it is asked for; l are fates beside those that bring it there, by how many operations they come later.
func troubled(t *testing.T, page, broken, mark, gone bool, later ...api.Fate) *chip.Chip {
	t.Helper()
	n := one(page) + one(broken) + one(mark)
	l := []api.Fate{{At: 1 << 30, Do: fail}}
	if broken {
		l = append(l, api.Fate{At: one(page), Do: fail})
	}
	if gone {
		l = append(l, api.Fate{At: n, Do: cut})
	}
	for _, f := range later {
		f.At += n + one(gone)
		l = append(l, f)
	}
	c := made(t, small, nil, l...)
	if page {
		programmed(t, c, 0, 0, symbols(small, 3), api.OK)
	}
	if broken {
		erased(t, c, 0, api.ErrErase)
	}
	if mark {
		noted(t, c, 0, api.OK)
	}
	if gone {
		notSensed(t, c, 0, 0, api.ErrPower)
	}
	return c
}

// ended tells that an operation with an error of its own was counted, and changed nothing; and that, if fates wait for it, nothing befell it, and no later one.
func ended(t *testing.T, what string, c *chip.Chip, ask func() api.Errno, want api.Errno) {
	t.Helper()
	before, ops, refused := look(c), c.Ops(), c.Refused()
	is(t, what, ask(), want)
	is(t, "Ops() behind "+what, c.Ops(), ops+one(want != api.ErrPower))
	is(t, "Refused() behind "+what, c.Refused(), refused+one(refusal(want)))
	if want == api.OK {
		return
	}
	same(t, what, look(c), before)
	for range 3 {
		if !before.dark {
			erased(t, c, 4, api.OK)
		}
	}
}

// waiting are no fates, and ones that wait for the operation that is next.
var waiting = [][]api.Fate{nil, {{Do: fail, Keep: 5}}, {{Do: cut, Keep: 5}}, {{Do: fail}}, {{Do: cut}}}

func TestErrorsOfProgramInOrder(t *testing.T) {
	order := []api.Errno{api.ErrPower, api.ErrArg, api.ErrArg, api.ErrSize, api.ErrArg, api.ErrMarked, api.ErrOrder, api.ErrProgram}
	for n := range 1 << len(order) {
		gone, noBlock, noPage, size, symbol, mark, page, broken := bits(n, 0), bits(n, 1), bits(n, 2), bits(n, 3), bits(n, 4), bits(n, 5), bits(n, 6), bits(n, 7)
		want := api.OK
		for i := len(order) - 1; i >= 0; i-- {
			if bits(n, i) {
				want = order[i]
			}
		}
		s := symbols(small, 9)
		if symbol {
			s[len(s)/2] = 1024
		}
		if size {
			s = append(s, 0)
		}
		for _, l := range waiting {
			if want == api.OK && l != nil {
				continue
			}
			c := troubled(t, page, broken, mark, gone, l...)
			ended(t, "Program", c, func() api.Errno { return c.Program(-one(noBlock), 3*one(noPage), s) }, want)
		}
	}
}

func TestErrorsOfEraseInOrder(t *testing.T) {
	order := []api.Errno{api.ErrPower, api.ErrArg, api.ErrMarked, api.ErrErase}
	for n := range 1 << len(order) {
		gone, noBlock, mark, broken := bits(n, 0), bits(n, 1), bits(n, 2), bits(n, 3)
		want := api.OK
		for i := len(order) - 1; i >= 0; i-- {
			if bits(n, i) {
				want = order[i]
			}
		}
		for _, l := range waiting {
			if want == api.OK && l != nil {
				continue
			}
			for _, page := range []bool{false, true} {
				c := troubled(t, page, broken, mark, gone, l...)
				ended(t, "Erase", c, func() api.Errno { return c.Erase(5 * one(noBlock)) }, want)
			}
		}
	}
}

func TestErrorsOfSenseMarkAndMarkedInOrder(t *testing.T) {
	for n := range 1 << 5 {
		gone, noBlock, mark, broken, page := bits(n, 0), bits(n, 1), bits(n, 2), bits(n, 3), bits(n, 4)
		want := api.OK
		if noBlock {
			want = api.ErrArg
		}
		if gone {
			want = api.ErrPower
		}
		for _, l := range waiting {
			if want == api.OK && l != nil {
				continue
			}
			for _, at := range [][2]int{{5 * one(noBlock), 0}, {-one(noBlock), 0}, {0, 3 * one(noBlock)}, {0, -one(noBlock)}} {
				c := troubled(t, page, broken, mark, gone, l...)
				ended(t, "Sense", c, func() api.Errno { _, err := c.Sense(at[0], at[1]); return err }, want)
			}
			for _, b := range []int{5 * one(noBlock), -one(noBlock)} {
				c := troubled(t, page, broken, mark, gone, l...)
				ended(t, "Mark", c, func() api.Errno { return c.Mark(b) }, want)
				c = troubled(t, page, broken, mark, gone, l...)
				ended(t, "Marked", c, func() api.Errno { _, err := c.Marked(b); return err }, want)
			}
		}
	}
}

func TestNoSuchBlockOrPage(t *testing.T) {
	for _, g := range sizes {
		c, s, asked := made(t, g, nil), symbols(g, 2), 0
		before := look(c)
		none := func(block, page int) {
			notSensed(t, c, block, page, api.ErrArg)
			programmed(t, c, block, page, s, api.ErrArg)
			asked += 2
		}
		for _, n := range append([]int{g.Blocks, g.Blocks + 1}, far...) {
			if n >= 0 && n < g.Blocks {
				continue
			}
			none(n, 0)
			none(n, g.Pages-1)
			none(n, n)
			erased(t, c, n, api.ErrArg)
			noted(t, c, n, api.ErrArg)
			isMarked(t, c, n, false, api.ErrArg)
			asked += 3
			is(t, "Erases of no block", c.Erases(n), 0)
			is(t, "Broken of no block", c.Broken(n), false)
		}
		for _, n := range append([]int{g.Pages, g.Pages + 1}, far...) {
			if n < 0 || n >= g.Pages {
				none(0, n) // also where the number would be another block's page
				none(g.Blocks-1, n)
			}
		}
		counted(t, c, asked, asked)
		same(t, "none", look(c), before)
	}
}

// P10.2: Program.

func TestProgramPutsThePointsOfAllSymbols(t *testing.T) {
	for _, g := range sizes {
		c, want := made(t, g, nil), fresh(g)
		for b := range g.Blocks {
			for p := range g.Pages {
				s := symbols(g, uint32(100*b+p))
				s[0], s[len(s)-1] = 1023, 0
				programmed(t, c, b, p, s, api.OK)
				want.pages[b*g.Pages+p] = points(s, len(s))
				sensed(t, c, b, p, points(s, len(s)))
			}
		}
		same(t, "programmed", look(c), want)
		counted(t, c, 2*g.Blocks*g.Pages, 0)
	}
}

func TestProgramRefusesTooFewAndTooManySymbols(t *testing.T) {
	for _, g := range sizes {
		c, n := made(t, g, nil), cellsOf(g)
		for _, many := range []int{0, 1, g.W * g.K, n - g.W, n - 1, n + 1, n + g.W, 2 * n, 1<<16 + n} {
			programmed(t, c, 0, 0, make([]uint16, many), api.ErrSize)
		}
		programmed(t, c, 0, 0, nil, api.ErrSize)
		counted(t, c, 10, 10)
		same(t, "refused", look(c), fresh(g))
		programmed(t, c, 0, 0, make([]uint16, n), api.OK)
	}
}

func TestProgramRefusesSymbolsFrom1024On(t *testing.T) {
	for _, g := range sizes {
		n := cellsOf(g)
		for _, i := range []int{0, 1, g.W, n / 2, n - 2, n - 1} {
			for _, x := range []uint16{1024, 1025, 2047, 1 << 15, 65535} {
				c, s := made(t, g, nil), symbols(g, 4)
				s[i] = x
				programmed(t, c, 0, 0, s, api.ErrArg)
				counted(t, c, 1, 1)
				s[i] = 1023
				programmed(t, c, 0, 0, s, api.OK)
				sensed(t, c, 0, 0, points(s, n))
			}
		}
	}
	c, s := made(t, small, nil), symbols(small, 4)
	s[3] = 1024
	programmed(t, c, 0, 0, s, api.ErrArg)
	same(t, "refused", look(c), fresh(small))
}

func TestProgramInOrder(t *testing.T) {
	for _, g := range sizes {
		c, s := made(t, g, nil), symbols(g, 5)
		for next := range g.Pages {
			before := look(c)
			for p := range g.Pages { // ahead, and those that are programmed
				if p != next {
					programmed(t, c, 1, p, s, api.ErrOrder)
				}
			}
			same(t, "refused", look(c), before)
			programmed(t, c, 1, next, s, api.OK)
			if g.Blocks*g.Pages > 100 && next > 3 { // long enough
				break
			}
		}
		for p := range min(g.Pages, 4) { // also when there is no next one
			programmed(t, c, 1, p, s, api.ErrOrder)
		}
	}
}

func TestProgramOfOneBlockHangsNotOnAnother(t *testing.T) {
	c, s := made(t, small, nil), symbols(small, 5)
	programmed(t, c, 1, 0, s, api.OK)
	programmed(t, c, 1, 1, s, api.OK)
	for _, b := range []int{0, 2} { // on either side
		programmed(t, c, b, 1, s, api.ErrOrder)
		programmed(t, c, b, 0, s, api.OK)
	}
	programmed(t, c, 1, 2, s, api.OK)
	programmed(t, c, 2, 1, s, api.OK) // not asked of the last page of block 1
}

func TestProgramBelowAPageThatIsProgrammed(t *testing.T) {
	s := symbols(small, 6)
	for keep := range 4 { // an Erase that was cut off leaves the upper pages
		for many := range 4 {
			c := made(t, small, nil, api.Fate{At: many, Do: cut, Keep: keep})
			for p := range many {
				programmed(t, c, 0, p, s, api.OK)
			}
			erased(t, c, 0, api.ErrPower)
			c.Power()
			for p := range 3 {
				want := api.ErrOrder
				if blank := keep >= many; blank && p == 0 || !blank && p == many {
					want = api.OK
				}
				programmed(t, c.Copy(), 0, p, s, want)
			}
		}
	}
}

func TestProgramOfABrokenBlockDoesNothing(t *testing.T) {
	for many := range 3 {
		c, s := made(t, small, nil, api.Fate{At: many, Do: fail, Keep: 3}, api.Fate{At: many + 1, Do: cut, Keep: 7}, api.Fate{At: many + 2, Do: fail, Keep: 7}), symbols(small, 6)
		for p := range many {
			programmed(t, c, 4, p, s, api.OK)
		}
		erased(t, c, 4, api.ErrErase)
		before := look(c)
		for range 5 { // the fates of two of them befall nothing
			programmed(t, c, 4, many, s, api.ErrProgram)
			same(t, "broken", look(c), before)
		}
		counted(t, c, many+6, 0)
		programmed(t, c, 3, 0, s, api.OK)
	}
}

// keeps are numbers of symbols to be kept of a page.
func keeps(g api.Geo) []int {
	n := cellsOf(g)
	l := n - out*g.W
	return []int{0, 1, 2, g.W, l - 1, l, l + 1, n - out, n - 1, n, n + 1, 1 << 16, 1<<16 + 1, 1 << 32, 1<<32 + 1, math.MaxInt}
}

func TestAProgramThatFailsKeepsNoMoreThanCanNotBeMended(t *testing.T) {
	for _, g := range sizes {
		s, n := symbols(g, 11), cellsOf(g)
		for _, keep := range keeps(g) {
			c, want := made(t, g, nil, api.Fate{At: 1, Do: fail, Keep: keep}), fresh(g)
			programmed(t, c, 1, 0, s, api.OK)
			programmed(t, c, 1, 1, s, api.ErrProgram)
			want.pages[g.Pages], want.pages[g.Pages+1] = points(s, n), points(s, min(keep, n-out*g.W))
			same(t, "failed", look(c), want) // neither marked nor broken, and there is power
			counted(t, c, 2, 0)
			drifted(t, c, 1, 1, 0, 1, false) // it is never whole
		}
	}
}

func TestAProgramThatIsCutOff(t *testing.T) {
	for _, g := range sizes {
		s, n := symbols(g, 12), cellsOf(g)
		for _, keep := range keeps(g) {
			c, want := made(t, g, nil, api.Fate{At: 1, Do: cut, Keep: keep}), fresh(g)
			programmed(t, c, 1, 0, s, api.OK)
			programmed(t, c, 1, 1, s, api.ErrPower)
			want.pages[g.Pages], want.pages[g.Pages+1], want.dark = points(s, n), points(s, keep), true
			same(t, "cut off", look(c), want)
			counted(t, c, 2, 0)
			drifted(t, c, 1, 1, n-1, 0, keep >= n) // whole, if all of it was done
			programmed(t, c, 2, 0, s, api.ErrPower)
			c.Power()
			want.dark = false
			same(t, "behind it", look(c), want)
		}
	}
}

func TestProgramBehindOneThatFailedOrWasCutOff(t *testing.T) {
	s := symbols(small, 13)
	for _, do := range []int{fail, cut} {
		for _, keep := range keeps(small) {
			again, behind := api.ErrOrder, api.OK
			if keep == 0 { // it is blank still
				again, behind = api.OK, api.ErrOrder
			}
			for p := range 2 {
				c := made(t, small, nil, api.Fate{At: p, Do: do, Keep: keep})
				for i := range p {
					programmed(t, c, 2, i, s, api.OK)
				}
				c.Program(2, p, s)
				c.Power()
				programmed(t, c.Copy(), 2, p, s, again)
				programmed(t, c.Copy(), 2, p+1, s, behind)
				erased(t, c, 2, api.OK)
				programmed(t, c, 2, 0, s, api.OK)
			}
		}
	}
}

func TestProgramKeepsNotWhatIsHandedIn(t *testing.T) {
	room := append(symbols(small, 14), 1, 2, 3)
	kept, n := slices.Clone(room), cellsOf(small)
	c := made(t, small, nil, api.Fate{At: 1, Do: fail, Keep: 9})
	programmed(t, c, 0, 0, room[:n], api.OK)
	programmed(t, c, 0, 1, room[:n], api.ErrProgram)
	programmed(t, c, 0, 0, room[:n], api.ErrOrder)
	if !slices.Equal(room, kept) {
		t.Errorf("Program has changed its symbols: %v", room)
	}
	before := look(c)
	for i := range room {
		room[i] = 900
	}
	same(t, "changed by who has it", look(c), before)
	is(t, "Worst()", c.Worst(), 0)
}

// P10.3: Erase.

func TestEraseMakesAllPagesBlank(t *testing.T) {
	s := symbols(small, 15)
	for many := range 4 {
		c, want := made(t, small, nil), fresh(small)
		programmed(t, c, 1, 0, s, api.OK) // beside it: it stays
		programmed(t, c, 3, 0, s, api.OK)
		want.pages[3], want.pages[9] = points(s, len(s)), points(s, len(s))
		for p := range many {
			programmed(t, c, 2, p, s, api.OK)
		}
		for n := range 3 {
			erased(t, c, 2, api.OK)
			want.erases[2] = n + 1
			same(t, "erased", look(c), want)
		}
		counted(t, c, many+5, 0)
		for p := range 3 { // in order again
			programmed(t, c, 2, p, symbols(small, 16), api.OK)
		}
	}
}

func TestEraseThatFailsBreaksTheBlock(t *testing.T) {
	s := symbols(small, 17)
	for _, keep := range []int{0, 1, 2, 3, 4, 1 << 32, math.MaxInt} { // whatever it is
		c, want := made(t, small, nil, api.Fate{At: 3, Do: fail, Keep: keep}), fresh(small)
		erased(t, c, 2, api.OK)
		programmed(t, c, 2, 0, s, api.OK)
		programmed(t, c, 2, 1, s, api.OK)
		want.pages[6], want.pages[7], want.erases[2], want.broken[2] = points(s, len(s)), points(s, len(s)), 1, true
		for range 3 { // from then on, whatever befalls
			erased(t, c, 2, api.ErrErase)
			same(t, "broken", look(c), want)
		}
		is(t, "Broken(2)", c.Broken(2), true)
		is(t, "Broken(1)", c.Broken(1), false)
		sensed(t, c, 2, 1, points(s, len(s)))
		erased(t, c, 1, api.OK)
		counted(t, c, 8, 0)
	}
}

func TestEraseThatIsCutOff(t *testing.T) {
	for _, g := range sizes[:4] {
		s := symbols(g, 18)
		for _, keep := range []int{0, 1, g.Pages - 1, g.Pages, g.Pages + 1, 64, 1 << 32, 1<<32 + 1, math.MaxInt} {
			c, want := made(t, g, nil, api.Fate{At: g.Pages + 1, Do: cut, Keep: keep}), fresh(g)
			erased(t, c, 1, api.OK)
			for p := range g.Pages {
				programmed(t, c, 1, p, s, api.OK)
				if p >= keep {
					want.pages[g.Pages+p] = points(s, len(s))
				}
			}
			want.erases[1], want.dark = 1, true // it did not end: it is not one more
			erased(t, c, 1, api.ErrPower)
			same(t, "cut off", look(c), want)
			counted(t, c, g.Pages+2, 0)
			c.Power()
			is(t, "Broken(1)", c.Broken(1), false)
			erased(t, c, 1, api.OK)
			want = fresh(g)
			want.erases[1] = 2
			same(t, "erased again", look(c), want)
		}
	}
}

func TestErasesByBlock(t *testing.T) {
	c := made(t, small, []int{4}, api.Fate{At: 5, Do: fail})
	for _, b := range []int{0, 3, 3, 0, 3, 3, 3, 4, 5, -1, 1} { // the sixth fails, and breaks block 3
		c.Erase(b)
	}
	for b, want := range []int{2, 1, 0, 3, 0} {
		is(t, "Erases", c.Erases(b), want)
	}
	for _, b := range append([]int{-1, 5}, far...) {
		is(t, "Erases of no block", c.Erases(b), 0)
		is(t, "Broken of no block", c.Broken(b), false)
	}
	counted(t, c, 11, 3)
}

func TestEraseRefusesAMarkedBlock(t *testing.T) {
	s := symbols(small, 19)
	c := made(t, small, []int{0}, api.Fate{At: 2, Do: fail}, api.Fate{At: 3, Do: cut, Keep: 3})
	programmed(t, c, 1, 0, s, api.OK)
	noted(t, c, 1, api.OK)
	before := look(c)
	erased(t, c, 0, api.ErrMarked)
	erased(t, c, 1, api.ErrMarked)
	same(t, "marked", look(c), before)
	counted(t, c, 4, 2)
}

// P10.3: Sense.

func TestSenseOfWholePagesOfSuchInPartAndOfBlankOnes(t *testing.T) {
	for _, g := range sizes {
		s, n := symbols(g, 20), cellsOf(g)
		c := made(t, g, []int{0}, api.Fate{At: 0, Do: cut, Keep: n - 1}, api.Fate{At: 2, Do: fail, Keep: 1})
		programmed(t, c, 1, 0, s, api.ErrPower)
		c.Power()
		programmed(t, c, 2, 0, s, api.OK)
		programmed(t, c, 2, 1, s, api.ErrProgram)
		drifted(t, c, 2, 0, n-1, 5-7i, true)
		want := points(s, n)
		want[n-1] += 5 - 7i
		sensed(t, c, 2, 0, want)
		sensed(t, c, 2, 1, points(s, 1))
		sensed(t, c, 1, 0, points(s, n-1))
		sensed(t, c, 1, 1, points(s, 0))
		sensed(t, c, 0, g.Pages-1, points(s, 0)) // of a marked block, too
		noted(t, c, 2, api.OK)
		sensed(t, c, 2, 0, want)
	}
}

func TestSenseThatFailsOrIsCutOff(t *testing.T) {
	s := symbols(small, 21)
	for _, keep := range []int{0, 1, 42, math.MaxInt} {
		c := made(t, small, nil, api.Fate{At: 1, Do: fail, Keep: keep}, api.Fate{At: 2, Do: cut, Keep: keep}, api.Fate{At: 4, Do: cut, Keep: keep})
		programmed(t, c, 0, 0, s, api.OK)
		sensed(t, c, 0, 0, points(s, len(s))) // it fails, and nothing befalls
		before := look(c)
		notSensed(t, c, 0, 0, api.ErrPower)
		notSensed(t, c, 0, 0, api.ErrPower)
		counted(t, c, 3, 0)
		c.Power()
		same(t, "sensed", look(c), before)
		sensed(t, c, 0, 0, points(s, len(s)))
		notSensed(t, c, 1, 0, api.ErrPower) // a blank page
		counted(t, c, 5, 0)
	}
}

func TestSenseIsARowOfItsOwnEachTime(t *testing.T) {
	s := symbols(small, 22)
	c := made(t, small, nil, api.Fate{At: 1, Do: fail, Keep: 4})
	c.Program(0, 0, s)
	c.Program(0, 1, s)
	before := look(c)
	for p := range 3 {
		a, _ := c.Sense(0, p)
		b, _ := c.Sense(0, p)
		kept := slices.Clone(b)
		for i := range a[:cap(a)] {
			a[:cap(a)][i] = 500 - 500i
		}
		if !slices.Equal(b, kept) {
			t.Errorf("two answers of Sense share their memory: %v", b)
		}
		same(t, "changed by who has it", look(c), before)
	}
	a, _ := c.Sense(0, 0)
	drifted(t, c, 0, 0, 3, 2, true)
	erased(t, c, 0, api.OK)
	if !slices.Equal(a, points(s, len(s))) {
		t.Errorf("what was sensed has moved: %v", a)
	}
}

// P10.3: Mark, Marked, Power.

func TestMarkIsForGood(t *testing.T) {
	s := symbols(small, 23)
	c, want := made(t, small, []int{3}), fresh(small, 3, 1)
	programmed(t, c, 1, 0, s, api.OK)
	want.pages[3] = points(s, len(s))
	for range 3 { // also one that is marked
		noted(t, c, 1, api.OK)
		noted(t, c, 3, api.OK)
		same(t, "marked", look(c), want)
	}
	for b, m := range want.marked {
		isMarked(t, c, b, m, api.OK)
	}
	erased(t, c, 1, api.ErrMarked)
	programmed(t, c, 1, 1, s, api.ErrMarked)
	sensed(t, c, 1, 0, points(s, len(s)))
	drifted(t, c, 1, 0, 0, 0, true)
	isMarked(t, c, 1, true, api.OK)
	counted(t, c, 16, 2)
}

func TestMarkOfABrokenBlock(t *testing.T) {
	c := made(t, small, nil, api.Fate{At: 0, Do: fail})
	erased(t, c, 1, api.ErrErase)
	isMarked(t, c, 1, false, api.OK)
	noted(t, c, 1, api.OK)
	isMarked(t, c, 1, true, api.OK)
	is(t, "Broken(1)", c.Broken(1), true)
	erased(t, c, 1, api.ErrMarked)
	programmed(t, c, 1, 0, symbols(small, 1), api.ErrMarked)
}

func TestMarkThatIsCutOffOrFails(t *testing.T) {
	for _, keep := range []int{0, 1, 9, math.MaxInt} {
		c := made(t, small, []int{3}, api.Fate{At: 0, Do: cut, Keep: keep}, api.Fate{At: 1, Do: fail, Keep: keep}, api.Fate{At: 2, Do: cut, Keep: keep}, api.Fate{At: 3, Do: cut, Keep: keep}, api.Fate{At: 4, Do: fail, Keep: keep})
		noted(t, c, 1, api.ErrPower)
		want := fresh(small, 3)
		want.dark = true
		same(t, "cut off", look(c), want)
		c.Power()
		noted(t, c, 1, api.OK) // it fails, and nothing befalls
		same(t, "failed", look(c), fresh(small, 1, 3))
		noted(t, c, 1, api.ErrPower) // those that are marked stay so
		c.Power()
		noted(t, c, 3, api.ErrPower)
		c.Power()
		same(t, "cut off", look(c), fresh(small, 1, 3))
		noted(t, c, 3, api.OK)
		same(t, "failed", look(c), fresh(small, 1, 3))
		counted(t, c, 5, 0)
	}
}

func TestMarkedThatIsCutOffOrFails(t *testing.T) {
	for _, keep := range []int{0, 1, 9, math.MaxInt} {
		c := made(t, small, []int{3}, api.Fate{At: 0, Do: cut, Keep: keep}, api.Fate{At: 1, Do: fail, Keep: keep}, api.Fate{At: 2, Do: fail, Keep: keep}, api.Fate{At: 3, Do: cut, Keep: keep})
		isMarked(t, c, 3, false, api.ErrPower)
		isMarked(t, c, 3, false, api.ErrPower)
		c.Power()
		isMarked(t, c, 3, true, api.OK)
		isMarked(t, c, 1, false, api.OK)
		isMarked(t, c, 1, false, api.ErrPower)
		c.Power()
		same(t, "asked", look(c), fresh(small, 3))
		counted(t, c, 4, 0)
	}
}

func TestPowerWhereItIsThereAlready(t *testing.T) {
	c := begun(t, api.Fate{At: 2, Do: cut})
	before := look(c)
	for range 3 {
		c.Power()
		counted(t, c, 2, 0)
		same(t, "power", look(c), before)
	}
	erased(t, c, 4, api.ErrPower) // its fate is still there
	c.Power()
	c.Power()
	counted(t, c, 3, 0)
	same(t, "power", look(c), before)
}

func TestPowerGoesMoreThanOnce(t *testing.T) {
	c := made(t, small, nil, api.Fate{At: 0, Do: cut}, api.Fate{At: 1, Do: cut}, api.Fate{At: 2, Do: cut})
	for n := range 3 {
		erased(t, c, 0, api.ErrPower)
		erased(t, c, 0, api.ErrPower)
		counted(t, c, n+1, 0)
		c.Power()
	}
	erased(t, c, 0, api.OK)
}

// P10.4: what is no operation.

func TestDriftMovesOneCell(t *testing.T) {
	for _, g := range sizes {
		c, want, n := made(t, g, nil), fresh(g), cellsOf(g)
		for p := range 2 {
			s := slices.Repeat([]uint16{nought}, n)
			programmed(t, c, 1, p, s, api.OK)
			want.pages[g.Pages+p] = points(s, n)
		}
		for k, i := range []int{0, 1, n / 2, n - 1} {
			by := complex(float64(62-k), float64(k-62))
			drifted(t, c, 1, 1, i, by, true)
			drifted(t, c, 1, 1, i, -by, true)
			drifted(t, c, 1, 1, i, by, true)
			want.pages[g.Pages+1][i] += by
		}
		want.worst = worstOf(g, want.pages[g.Pages+1])
		same(t, "moved", look(c), want)
		counted(t, c, 2, 0)
	}
}

// worstOf is how many points of one codeword are not near 1 + 1i at the most.
func worstOf(g api.Geo, p []complex128) int {
	many := make([]int, g.W)
	for i, x := range p {
		if x == 0 || real(x) < 0 || real(x) >= 2 || imag(x) < 0 || imag(x) >= 2 {
			many[i%g.W]++
		}
	}
	return slices.Max(many)
}

func TestDriftWithoutPower(t *testing.T) {
	s := slices.Repeat([]uint16{nought}, cellsOf(small))
	c := made(t, small, nil, api.Fate{At: 1, Do: cut}, api.Fate{At: 2, Do: cut})
	programmed(t, c, 0, 0, s, api.OK)
	erased(t, c, 0, api.ErrPower)
	drifted(t, c, 0, 0, 7, 4i, true)
	drifted(t, c, 0, 1, 7, 4i, false)
	is(t, "Worst()", c.Worst(), 1)
	counted(t, c, 2, 0) // it is no operation, and the next one's fate waits
	c.Power()
	drifted(t, c, 0, 0, 9, 4i, true)
	notSensed(t, c, 0, 0, api.ErrPower)
	c.Power()
	want := points(s, len(s))
	want[7] += 4i
	want[9] += 4i
	sensed(t, c, 0, 0, want)
}

func TestDriftOnlyOfWholePages(t *testing.T) {
	s, n := symbols(small, 30), cellsOf(small)
	c := made(t, small, nil, api.Fate{At: 0, Do: cut, Keep: n - 1}, api.Fate{At: 2, Do: fail, Keep: n}, api.Fate{At: 3, Do: cut, Keep: n})
	c.Program(0, 0, s) // in part
	c.Power()
	c.Program(1, 0, s)
	c.Program(1, 1, s) // in part, too
	c.Program(2, 0, s) // whole, though the power went
	c.Power()
	before := look(c)
	for i := range n {
		for _, by := range []complex128{0, 1, -1i, 62} {
			drifted(t, c, 0, 0, i, by, false)
			drifted(t, c, 1, 1, i, by, false)
			drifted(t, c, 3, 0, i, by, false) // blank
			drifted(t, c, 1, 2, i, by, false)
		}
	}
	same(t, "not moved", look(c), before)
	drifted(t, c, 1, 0, n-1, 1, true)
	drifted(t, c, 2, 0, n-1, 1, true)
	erased(t, c, 2, api.OK)
	drifted(t, c, 2, 0, n-1, 1, false)
}

func TestDriftOfNoBlockPageOrCell(t *testing.T) {
	for _, g := range sizes[:4] {
		c, n := made(t, g, nil), cellsOf(g)
		for b := range g.Blocks {
			for p := range g.Pages {
				programmed(t, c, b, p, symbols(g, 31), api.OK)
			}
		}
		before := look(c)
		for _, by := range []complex128{0, 1} {
			for _, x := range append([]int{g.Blocks, g.Pages, n, n + 1}, far...) {
				if x < 0 || x >= g.Blocks {
					drifted(t, c, x, 0, 0, by, false)
				}
				if x < 0 || x >= g.Pages {
					drifted(t, c, 0, x, 0, by, false)
					drifted(t, c, g.Blocks-1, x, 0, by, false)
				}
				if x < 0 || x >= n {
					drifted(t, c, 0, 0, x, by, false)
					drifted(t, c, g.Blocks-1, g.Pages-1, x, by, false)
				}
			}
		}
		same(t, "not moved", look(c), before)
		counted(t, c, g.Blocks*g.Pages, 0)
	}
}

func TestDriftByWhatIsNoMove(t *testing.T) {
	inf, nan := math.Inf(1), math.NaN()
	c := made(t, small, nil)
	programmed(t, c, 0, 0, symbols(small, 32), api.OK)
	before := look(c)
	for _, x := range []float64{nan, inf, -inf, 63, -63, 0.5, -1.5, 62.5, 1e300, -1 << 63, 1 << 32, math.SmallestNonzeroFloat64} {
		for _, by := range []complex128{complex(x, 0), complex(0, x), complex(x, 1), complex(1, x), complex(x, x)} {
			drifted(t, c, 0, 0, 0, by, false)
		}
	}
	same(t, "not moved", look(c), before)
}

func TestDriftsEndAt1000(t *testing.T) {
	c := made(t, small, nil)
	s := symbols(small, 33)
	s[5] = 1023
	programmed(t, c, 0, 0, s, api.OK)
	for range 15 { // from 31 to 961
		drifted(t, c, 0, 0, 5, 62-62i, true)
	}
	drifted(t, c, 0, 0, 5, 40, false)
	drifted(t, c, 0, 0, 5, 39, true)
	drifted(t, c, 0, 0, 5, 1, false)
	want := points(s, len(s))
	want[5] = complex(reach, 31-930)
	sensed(t, c, 0, 0, want)
}

func TestWorstOfNothing(t *testing.T) {
	for _, g := range sizes {
		c := made(t, g, []int{1})
		is(t, "Worst() of blank pages", c.Worst(), 0)
		for p := range 2 {
			programmed(t, c, 0, p, slices.Repeat([]uint16{nought}, cellsOf(g)), api.OK)
			is(t, "Worst() of what did not move", c.Worst(), 0)
		}
		drifted(t, c, 0, 0, 0, 0, true)
		drifted(t, c, 0, 0, 0, -1, true) // not as far as another symbol
		is(t, "Worst() of what is near", c.Worst(), 0)
		counted(t, c, 2, 0)
	}
}

func TestWorstIsOfOneCodeword(t *testing.T) {
	for _, g := range sizes {
		n := cellsOf(g)
		c := made(t, g, nil)
		programmed(t, c, 0, 0, slices.Repeat([]uint16{nought}, n), api.OK)
		for w := range g.W { // word after word, two wrong in each, and a third of the last
			for k := range 2 {
				drifted(t, c, 0, 0, w+(3*k+1)*g.W, 2, true)
				is(t, "Worst()", c.Worst(), max(k+1, 2*one(w > 0)))
			}
		}
		drifted(t, c, 0, 0, n-1, -2i, true)
		is(t, "Worst()", c.Worst(), 3)
		drifted(t, c, 0, 0, n-1, 2i, true) // and back
		is(t, "Worst()", c.Worst(), 2)
		for i := range n {
			if i%g.W == 0 {
				drifted(t, c, 0, 0, i, 31i, true)
			}
		}
		is(t, "Worst()", c.Worst(), n/g.W)
	}
}

func TestWorstIsOfOnePage(t *testing.T) {
	c, s := made(t, small, nil), slices.Repeat([]uint16{nought}, cellsOf(small))
	for b := range 5 {
		for p := range 3 {
			programmed(t, c, b, p, s, api.OK)
		}
	}
	for b := range 5 {
		for p := range 3 { // one in each codeword of each page
			drifted(t, c, b, p, 2*b, 2, true)
			drifted(t, c, b, p, 2*p+1, 2, true)
			is(t, "Worst()", c.Worst(), 1)
		}
	}
	for k, at := range [][2]int{{0, 0}, {4, 2}, {2, 1}, {0, 2}, {4, 0}} { // any page's
		for i := range k + 1 {
			drifted(t, c, at[0], at[1], 10+2*at[0]+2*i, 2, true)
		}
		is(t, "Worst()", c.Worst(), k+2)
	}
	noted(t, c, 4, api.OK)
	is(t, "Worst() with a marked block", c.Worst(), 6)
}

func TestWorstOfAPointThatIsJustNought(t *testing.T) {
	c := made(t, small, nil)
	programmed(t, c, 0, 0, slices.Repeat([]uint16{nought}, cellsOf(small)), api.OK)
	drifted(t, c, 0, 0, 4, -1-1i, true)
	is(t, "Worst()", c.Worst(), 1)
	drifted(t, c, 0, 0, 4, 1, true)
	is(t, "Worst()", c.Worst(), 0)
}

func TestWorstIsOfWholePagesAlone(t *testing.T) {
	s, n := slices.Repeat([]uint16{nought}, cellsOf(small)), cellsOf(small)
	c := made(t, small, nil, api.Fate{At: 1, Do: fail, Keep: n}, api.Fate{At: 2, Do: cut, Keep: n - 1}, api.Fate{At: 3, Do: cut, Keep: n}, api.Fate{At: 4, Do: fail})
	programmed(t, c, 0, 0, s, api.OK)
	programmed(t, c, 0, 1, s, api.ErrProgram) // cells that lack are no wrong ones
	programmed(t, c, 1, 0, s, api.ErrPower)
	c.Power()
	is(t, "Worst()", c.Worst(), 0)
	programmed(t, c, 2, 0, s, api.ErrPower) // whole
	drifted(t, c, 2, 0, 0, 2, true)
	is(t, "Worst() without power", c.Worst(), 1)
	c.Power()
	erased(t, c, 2, api.ErrErase)
	is(t, "Worst() with a broken block", c.Worst(), 1)
	counted(t, c, 5, 0)
}

func TestWorstBehindAnErase(t *testing.T) {
	s := slices.Repeat([]uint16{nought}, cellsOf(small))
	c := made(t, small, nil, api.Fate{At: 3, Do: cut, Keep: 1})
	for p := range 3 {
		programmed(t, c, 0, p, s, api.OK)
		for i := range 4 - p {
			drifted(t, c, 0, p, 2*i, 2, true)
		}
	}
	is(t, "Worst()", c.Worst(), 4)
	erased(t, c, 0, api.ErrPower) // page 0 alone
	is(t, "Worst()", c.Worst(), 3)
	c.Power()
	erased(t, c, 0, api.OK)
	is(t, "Worst()", c.Worst(), 0)
	programmed(t, c, 0, 0, s, api.OK)
	is(t, "Worst()", c.Worst(), 0)
}

func TestRefusedCountsWhatShouldNotHaveBeenAsked(t *testing.T) {
	c, ops, refused := begun(t), 2, 0
	for _, w := range ways { // one upon another
		err := w.ask(c)
		ops++
		refused += one(refusal(err))
		counted(t, c, ops, refused)
	}
	if refused < 10 {
		t.Errorf("%d were refused", refused)
	}
	c.Drift(9, 9, 9, 9)
	c.Erases(9)
	c.Broken(-1)
	c.Power()
	c.Worst()
	counted(t, c, ops, refused)
}

func TestRefusedCountsNeitherFailuresNorThePower(t *testing.T) {
	s := symbols(small, 34)
	c := made(t, small, nil, api.Fate{At: 0, Do: fail}, api.Fate{At: 1, Do: fail}, api.Fate{At: 4, Do: cut})
	programmed(t, c, 0, 0, s, api.ErrProgram)
	erased(t, c, 0, api.ErrErase)
	programmed(t, c, 0, 0, s, api.ErrProgram)
	erased(t, c, 0, api.ErrErase)
	counted(t, c, 4, 0)
	programmed(t, c, 1, 0, s, api.ErrPower)
	programmed(t, c, 9, 9, nil, api.ErrPower)
	counted(t, c, 5, 0)
}

// P10.4: Copy.

// busy is a device with something of all: pages whole, moved, in part and blank, a marked and a broken block, operations that were refused; seven are behind it.
func busy(t *testing.T, later ...api.Fate) *chip.Chip {
	t.Helper()
	l := []api.Fate{{At: 1, Do: fail, Keep: 20}, {At: 4, Do: fail}}
	for _, f := range later {
		f.At += 7
		l = append(l, f)
	}
	c := made(t, small, []int{1}, l...)
	programmed(t, c, 0, 0, symbols(small, 40), api.OK)
	programmed(t, c, 0, 1, symbols(small, 41), api.ErrProgram)
	programmed(t, c, 3, 0, slices.Repeat([]uint16{nought}, cellsOf(small)), api.OK)
	erased(t, c, 3, api.OK)
	erased(t, c, 2, api.ErrErase)
	programmed(t, c, 3, 0, slices.Repeat([]uint16{nought}, cellsOf(small)), api.OK)
	noted(t, c, 9, api.ErrArg)
	for i, by := range []complex128{2, 62 - 62i, -1 - 1i, 1, -62i} {
		drifted(t, c, 3, 0, 3*i, by, true)
	}
	for range 16 {
		drifted(t, c, 3, 0, 40, 62+62i, true)
	}
	drifted(t, c, 3, 0, 40, 7+7i, true) // to just 1000
	return c
}

func TestACopyIsLikeWhatItIsOf(t *testing.T) {
	c := busy(t)
	before := look(c)
	d := c.Copy()
	is(t, "Geo()", d.Geo(), small)
	is(t, "Worst()", d.Worst(), c.Worst())
	counted(t, d, 7, 1)
	sensed(t, d, 0, 0, before.pages[0])
	sensed(t, d, 0, 1, before.pages[1])
	sensed(t, d, 3, 0, before.pages[9])
	sensed(t, d, 4, 2, before.pages[14])
	for b := range 5 {
		isMarked(t, d, b, b == 1, api.OK)
		is(t, "Erases", d.Erases(b), one(b == 3))
		is(t, "Broken", d.Broken(b), b == 2)
	}
	same(t, "a copy", look(d), before)
	same(t, "a copy of a copy", look(d.Copy().Copy()), before)
	counted(t, c, 7, 1)

	drifted(t, d, 3, 0, 40, 1, false) // moves go on from where they were
	drifted(t, d, 3, 0, 40, -1, true)
	drifted(t, d, 0, 1, 0, 0, false)
	drifted(t, d, 0, 2, 0, 0, false)
	drifted(t, d, 3, 0, 0, -2, true) // and what was put there is known
	for i := 1; i < 5; i++ {
		drifted(t, d, 3, 0, 3*i, []complex128{0, -62 + 62i, 1 + 1i, -1, 62i}[i], true)
	}
	is(t, "Worst()", d.Worst(), 1)
	programmed(t, d, 0, 1, symbols(small, 40), api.ErrOrder)
	programmed(t, d, 0, 2, symbols(small, 40), api.OK)
}

// changed makes operations of all kinds, and moves, on a device like busy.
func changed(t *testing.T, c *chip.Chip) {
	t.Helper()
	programmed(t, c, 3, 1, symbols(small, 50), api.OK)
	programmed(t, c, 4, 0, symbols(small, 51), api.OK)
	noted(t, c, 4, api.OK)
	erased(t, c, 0, api.OK)
	programmed(t, c, 0, 0, symbols(small, 52), api.OK)
	programmed(t, c, 0, 0, symbols(small, 52), api.ErrOrder)
	erased(t, c, 7, api.ErrArg)
	drifted(t, c, 0, 0, 5, 9, true)
	drifted(t, c, 3, 0, 5, 9, true)
	drifted(t, c, 3, 0, 0, 9, true)
}

func TestNeitherOfTwoHearsOfTheOther(t *testing.T) {
	c := busy(t)
	before, d := look(c), c.Copy()
	changed(t, d)
	counted(t, d, 14, 3)
	same(t, "what was copied", look(c), before)
	counted(t, c, 7, 1)

	after := look(d)
	e := c.Copy() // and the other way
	noted(t, c, 0, api.OK)
	erased(t, c, 3, api.OK)
	erased(t, c, 3, api.OK)
	drifted(t, c, 0, 0, 1, 3, true)
	same(t, "the copy", look(d), after)
	same(t, "the other copy", look(e), before)
	counted(t, e, 7, 1)
	counted(t, c, 10, 1)
	changed(t, e) // what is the same comes to the same
	same(t, "both copies", look(e), after)
}

func TestTheFatesThatAreLeftBefallEach(t *testing.T) {
	c := busy(t, api.Fate{At: 0, Do: fail}, api.Fate{At: 1, Do: cut, Keep: 2}, api.Fate{At: 3, Do: fail, Keep: 3})
	early := c.Copy()
	for range 2 {
		for _, x := range []*chip.Chip{c.Copy(), c, early} {
			if x.Ops() != 7 {
				continue
			}
			erased(t, x, 4, api.ErrErase)
			late := x.Copy() // what befell is not left
			for _, y := range []*chip.Chip{x, late} {
				programmed(t, y, 3, 1, symbols(small, 60), api.ErrPower)
				programmed(t, y, 3, 2, symbols(small, 60), api.ErrPower)
				y.Power()
				sensed(t, y, 3, 1, points(symbols(small, 60), 2))
				programmed(t, y, 3, 2, symbols(small, 61), api.ErrProgram)
				sensed(t, y, 3, 2, points(symbols(small, 61), 3))
				counted(t, y, 12, 1)
				is(t, "Broken(4)", y.Broken(4), true)
			}
		}
	}
}

func TestACopyWithoutPowerIsWithoutIt(t *testing.T) {
	c := busy(t, api.Fate{At: 0, Do: cut})
	erased(t, c, 0, api.ErrPower)
	d := c.Copy()
	erased(t, d, 0, api.ErrPower)
	counted(t, d, 8, 1)
	c.Power()
	erased(t, d, 0, api.ErrPower)
	counted(t, d, 8, 1)
	e := c.Copy()
	erased(t, e, 0, api.OK)
	d.Power()
	erased(t, d, 0, api.OK)
	is(t, "Erases(0)", c.Erases(0), 0)
}

// What holds everywhere: no device at all, and one that nobody made.

func TestANilDeviceAnswersZeroValues(t *testing.T) {
	var c *chip.Chip
	is(t, "Geo()", c.Geo(), api.Geo{})
	for _, n := range append([]int{0, 1}, far...) {
		notSensed(t, c, n, 0, api.ErrArg)
		notSensed(t, c, 0, n, api.ErrArg)
		programmed(t, c, n, 0, nil, api.ErrArg)
		programmed(t, c, 0, n, symbols(small, 1), api.ErrArg)
		erased(t, c, n, api.ErrArg)
		noted(t, c, n, api.ErrArg)
		isMarked(t, c, n, false, api.ErrArg)
		drifted(t, c, n, 0, 0, 1, false)
		drifted(t, c, 0, n, n, 0, false)
		is(t, "Erases", c.Erases(n), 0)
		is(t, "Broken", c.Broken(n), false)
	}
	c.Power()
	is(t, "Worst()", c.Worst(), 0)
	counted(t, c, 0, 0)
	if d := c.Copy(); d != nil {
		t.Errorf("Copy() = %v", d)
	}
}

func TestADeviceThatNobodyMadeHasNoBlocks(t *testing.T) {
	c := &chip.Chip{}
	notSensed(t, c, 0, 0, api.ErrArg)
	programmed(t, c, 0, 0, nil, api.ErrArg)
	erased(t, c, 0, api.ErrArg)
	noted(t, c, 0, api.ErrArg)
	isMarked(t, c, 0, false, api.ErrArg)
	drifted(t, c, 0, 0, 0, 0, false)
	c.Power()
	is(t, "Worst()", c.Copy().Worst(), 0)
	is(t, "Erases", c.Erases(0), 0)
	is(t, "Broken", c.Broken(0), false)
	is(t, "Geo()", c.Geo(), api.Geo{})
}

// What holds everywhere: an answer hangs on the calls that made and changed the device. Held against one that keeps whole pages of symbols.

// model is a device as the chapter says it: of each page what was put there, how much of it, and how far each cell has moved.
type model struct {
	g              api.Geo
	fates          []api.Fate
	put            [][]uint16
	keep           []int
	moved          [][]complex128
	erases         []int
	marked, broken []bool
	dark           bool
	ops, refused   int
}

func newModel(g api.Geo, bad []int, l []api.Fate) *model {
	m := &model{g: g, fates: l, put: make([][]uint16, g.Blocks*g.Pages), keep: make([]int, g.Blocks*g.Pages), moved: make([][]complex128, g.Blocks*g.Pages), erases: make([]int, g.Blocks), marked: make([]bool, g.Blocks), broken: make([]bool, g.Blocks)}
	for i := range m.moved {
		m.moved[i] = make([]complex128, cellsOf(g))
	}
	for _, b := range bad {
		m.marked[b] = true
	}
	return m
}

// begin is an operation's fate, and whether it comes to it: not where the power is gone, or there is no such place.
func (m *model) begin(block, page int) (api.Fate, api.Errno) {
	var f api.Fate
	if m.dark {
		return f, api.ErrPower
	}
	for _, x := range m.fates {
		if x.At == m.ops {
			f = x
		}
	}
	m.ops++
	if block < 0 || block >= m.g.Blocks || page < 0 || page >= m.g.Pages {
		return f, m.refuse(api.ErrArg)
	}
	return f, api.OK
}

func (m *model) refuse(err api.Errno) api.Errno {
	m.refused++
	return err
}

func (m *model) power() api.Errno {
	m.dark = true
	return api.ErrPower
}

func (m *model) program(block, page int, s []uint16) api.Errno {
	f, err := m.begin(block, page)
	if err != api.OK {
		return err
	}
	n, at := cellsOf(m.g), block*m.g.Pages+page
	if len(s) != n {
		return m.refuse(api.ErrSize)
	}
	if slices.Max(s) > 1023 {
		return m.refuse(api.ErrArg)
	}
	if m.marked[block] {
		return m.refuse(api.ErrMarked)
	}
	if slices.Max(m.keep[at:(block+1)*m.g.Pages]) > 0 || page > 0 && m.keep[at-1] == 0 {
		return m.refuse(api.ErrOrder)
	}
	if m.broken[block] {
		return api.ErrProgram
	}
	m.put[at] = s
	if f.Do == fail {
		m.keep[at] = min(f.Keep, m.g.W*(m.g.K+parity-out))
		return api.ErrProgram
	}
	if f.Do == cut {
		m.keep[at] = min(f.Keep, n)
		return m.power()
	}
	m.keep[at] = n
	return api.OK
}

func (m *model) erase(block int) api.Errno {
	f, err := m.begin(block, 0)
	if err != api.OK {
		return err
	}
	if m.marked[block] {
		return m.refuse(api.ErrMarked)
	}
	if m.broken[block] || f.Do == fail {
		m.broken[block] = true
		return api.ErrErase
	}
	for p := range m.g.Pages {
		if at := block*m.g.Pages + p; f.Do != cut || p < f.Keep {
			m.keep[at], m.moved[at] = 0, make([]complex128, cellsOf(m.g))
		}
	}
	if f.Do == cut {
		return m.power()
	}
	m.erases[block]++
	return api.OK
}

// other is Sense, Mark or Marked.
func (m *model) other(block, page int, mark bool) api.Errno {
	f, err := m.begin(block, page)
	if err != api.OK {
		return err
	}
	if f.Do == cut {
		return m.power()
	}
	if mark {
		m.marked[block] = true
	}
	return api.OK
}

func (m *model) page(at int) []complex128 {
	if m.keep[at] == 0 {
		return make([]complex128, cellsOf(m.g))
	}
	p := points(m.put[at], m.keep[at])
	for i := range p {
		p[i] += m.moved[at][i]
	}
	return p
}

func (m *model) drift(block, page, i int, by complex128) bool {
	if block < 0 || block >= m.g.Blocks || page < 0 || page >= m.g.Pages || i < 0 || i >= cellsOf(m.g) {
		return false
	}
	at := block*m.g.Pages + page
	if m.keep[at] < cellsOf(m.g) {
		return false
	}
	to := m.page(at)[i] + by
	if max(math.Abs(real(to)), math.Abs(imag(to))) > reach || max(math.Abs(real(by)), math.Abs(imag(by))) > 62 {
		return false
	}
	m.moved[at][i] += by
	return true
}

// worst takes a point to be right that is less than 1 from its symbol's, or just at its lower edge; symbols are such as lie far from all edges.
func (m *model) worst() int {
	worst := 0
	for at, moved := range m.moved {
		many := make([]int, m.g.W)
		for i, by := range moved {
			if m.keep[at] == cellsOf(m.g) && (real(by) < -1 || real(by) >= 1 || imag(by) < -1 || imag(by) >= 1 || m.page(at)[i] == 0) {
				many[i%m.g.W]++
			}
		}
		worst = max(worst, slices.Max(many))
	}
	return worst
}

func (m *model) look() stand {
	s := stand{erases: m.erases, marked: m.marked, broken: m.broken, worst: m.worst(), dark: m.dark}
	for at := range m.keep {
		s.pages = append(s.pages, m.page(at))
	}
	return s
}

// middle are a page's symbols that lie far from all edges: many of them around nought.
func (d *dice) middle(g api.Geo) []uint16 {
	s := make([]uint16, cellsOf(g))
	for i := range s {
		s[i] = uint16(32*(14+d.below(4)) + 14 + d.below(4))
	}
	return s
}

// fates are some of the operations up to the 300th.
func (d *dice) fates(g api.Geo) []api.Fate {
	var l []api.Fate
	for at := range 300 {
		if d.below(9) == 0 {
			l = append(l, api.Fate{At: at, Do: fail + d.below(8)/7*(cut-fail), Keep: d.below(cellsOf(g) + 4)})
			if d.below(2) == 0 {
				l[len(l)-1].Keep = d.below(4)
			}
		}
	}
	return l[:min(len(l), 256)]
}

// step makes one call of any kind on both.
func (d *dice) step(t *testing.T, c *chip.Chip, m *model) {
	t.Helper()
	block, page := d.below(m.g.Blocks+1), d.below(m.g.Pages+1)
	if d.below(30) == 0 {
		block, page = -1, -1
	}
	switch k := d.below(100); {
	case k < 45:
		s := d.middle(m.g)
		for page = 0; page < m.g.Pages && d.below(12) > 0 && block >= 0 && block < m.g.Blocks && m.keep[block*m.g.Pages+page] > 0; { // mostly the next page
			page++
		}
		if d.below(20) == 0 {
			s[d.below(len(s))] = 1024
		}
		if d.below(20) == 0 {
			s = s[1:]
		}
		programmed(t, c, block, page, s, m.program(block, page, s))
	case k < 60:
		erased(t, c, block, m.erase(block))
	case k < 62:
		noted(t, c, block, m.other(block, 0, true))
	case k < 66:
		err := m.other(block, 0, false)
		isMarked(t, c, block, err == api.OK && m.marked[block], err)
	case k < 70:
		if err := m.other(block, page, false); err != api.OK {
			notSensed(t, c, block, page, err)
		} else {
			sensed(t, c, block, page, m.page(block*m.g.Pages+page))
		}
	case k < 75:
		c.Power()
		m.dark = false
	default:
		i := d.below(cellsOf(m.g)+2) - 1
		by := complex(float64(d.below(9)-4), float64(d.below(9)-4))
		drifted(t, c, block, page, i, by, m.drift(block, page, i, by))
	}
}

func TestCallsInAnyOrder(t *testing.T) {
	for seed := range uint32(24) {
		d := &dice{seed: seed}
		g := sizes[seed%4]
		l := d.fates(g)
		c, m := made(t, g, []int{2}, l...), newModel(g, []int{2}, l)
		for n := range 400 {
			d.step(t, c, m)
			counted(t, c, m.ops, m.refused)
			if n%5 == 0 {
				same(t, "both", look(c), m.look())
			}
			if n%50 == 0 { // a copy goes on as well
				c = c.Copy()
			}
			if t.Failed() {
				t.Fatalf("seed %d, call %d", seed, n)
			}
		}
	}
}
