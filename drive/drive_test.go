package drive_test

import (
	"bytes"
	"math"
	"slices"
	"strconv"
	"testing"

	"blackboard/api"
	"blackboard/chip"
	"blackboard/drive"
	"blackboard/field"
	"blackboard/scan"
)

// The bounds and what may befall, in figures of their own.
const (
	fail = 1
	cut  = 2

	dataKind = 1
	trimKind = 2

	most   = 8 // symbols of a codeword that can be wrong
	due    = 4 // a codeword with as many wrong is written anew
	parity = 16
	head   = 8
	apart  = 3 // blocks that host pages don't count on, beside the spares
)

// The ends of what a number can be.
const (
	least    = math.MinInt
	greatest = math.MaxInt
)

// tables are made once: they are a value.
var tables = field.Make()

// The geometries of most tests, of pages with one codeword: without pages to move but by chance, and with many.
var (
	flat = api.Geo{Blocks: 6, Pages: 2, W: 1, K: 10}
	tall = api.Geo{Blocks: 5, Pages: 4, W: 1, K: 10}
)

// plan is a geometry, and blocks to spare.
type plan struct {
	g      api.Geo
	spares int
}

// plans are geometries with few host pages and with many, and each number of codewords.
func plans() []plan {
	return []plan{
		{api.Geo{Blocks: 4, Pages: 2, W: 1, K: 9}, 0},
		{api.Geo{Blocks: 5, Pages: 2, W: 1, K: 10}, 0},
		{api.Geo{Blocks: 5, Pages: 3, W: 1, K: 10}, 1},
		{api.Geo{Blocks: 6, Pages: 5, W: 2, K: 6}, 0},
		{api.Geo{Blocks: 7, Pages: 4, W: 3, K: 4}, 1},
		{api.Geo{Blocks: 8, Pages: 3, W: 4, K: 5}, 2},
		{api.Geo{Blocks: 9, Pages: 2, W: 1, K: 10}, 5},
		{api.Geo{Blocks: 4, Pages: 32, W: 1, K: 9}, 0},
		{api.Geo{Blocks: 10, Pages: 8, W: 1, K: 12}, 3},
	}
}

// far are numbers of no host page of the geometries above: also such whose lowest 8, 16 or 32 bits would be one.
var far = []int{least, least + 1, least / 2, -1 << 62, -1<<32 + 1, -1 << 32, math.MinInt32, -1<<16 + 1, -256, -255, -64, -3, -2, -1,
	256, 257, 1 << 16, 1<<16 + 1, 1 << 20, 1 << 31, 1 << 32, 1<<32 + 1, 1 << 60, 1 << 62, greatest/2 + 1, greatest - 1, greatest}

// dice throw what looks like any number, the same ones for the same seed.
type dice struct{ seed uint32 }

// below is a number from 0 to n - 1.
func (d *dice) below(n int) int {
	d.seed = d.seed*1664525 + 1013904223
	return int(d.seed>>8) % n
}

// page are a host page's bytes.
func (d *dice) page(g api.Geo) []byte {
	b := make([]byte, sizeOf(g))
	for i := range b {
		b[i] = byte(d.below(256))
	}
	return b
}

// cellsOf is how many cells a page has.
func cellsOf(g api.Geo) int {
	return g.W * (g.K + parity)
}

// sizeOf is how many bytes a host page has.
func sizeOf(g api.Geo) int {
	return (g.W*g.K - head) * 10 / 8
}

// lpnsOf is how many host pages there are.
func lpnsOf(p plan) int {
	return (p.g.Blocks - p.spares - apart) * p.g.Pages / 2
}

// boundOf is how many operations a command makes at the most.
func boundOf(g api.Geo, failures int) int {
	return 16 * (g.Pages + 4) * (1 + failures)
}

// made is a device.
func made(t *testing.T, g api.Geo, bad []int, l ...api.Fate) *chip.Chip {
	t.Helper()
	c, err := chip.New(g, bad, l)
	if err != api.OK {
		t.Fatalf("New(%+v, %v, %v): %v", g, bad, l, err)
	}
	return c
}

// is tells that an answer is as it is wanted.
func is[A comparable](t *testing.T, what string, got, want A) {
	t.Helper()
	if got != want {
		t.Errorf("%s = %v, want %v", what, got, want)
	}
}

// asked is what a copy of a device answers, asked till its power stays: the device hears nothing of it.
func asked[A any](t *testing.T, c *chip.Chip, ask func(c *chip.Chip) (A, api.Errno)) A {
	t.Helper()
	d := c.Copy()
	for range 300 {
		d.Power()
		a, err := ask(d)
		if err == api.OK {
			return a
		}
		if err != api.ErrPower {
			t.Fatalf("a copy of the device answers %v", err)
		}
	}
	t.Fatal("the power of the device does not stay")
	panic("unreachable")
}

// markedOf are the blocks that are marked.
func markedOf(c *chip.Chip) ([]int, api.Errno) {
	var l []int
	for b := range c.Geo().Blocks {
		on, err := c.Marked(b)
		if err != api.OK {
			return nil, err
		}
		if on {
			l = append(l, b)
		}
	}
	return l, api.OK
}

// marked are the blocks that are marked, asked of a copy.
func marked(t *testing.T, c *chip.Chip) []int {
	t.Helper()
	return asked(t, c, markedOf)
}

// lies is all that lies on a device: the points of all pages, how often its blocks were wiped, and which are marked.
type lies struct {
	points []complex128
	erases []int
	marked []int
}

// liesOf is all that lies on a device.
func liesOf(c *chip.Chip) (lies, api.Errno) {
	l := lies{}
	for b := range c.Geo().Blocks {
		l.erases = append(l.erases, c.Erases(b))
		for page := range c.Geo().Pages {
			p, err := c.Sense(b, page)
			if err != api.OK {
				return lies{}, err
			}
			l.points = append(l.points, p...)
		}
	}
	bad, err := markedOf(c)
	l.marked = bad
	return l, err
}

// same tells whether on both lies the same.
func (l lies) same(o lies) bool {
	return slices.Equal(l.points, o.points) && slices.Equal(l.erases, o.erases) && slices.Equal(l.marked, o.marked)
}

// sightsOf is what lies on each block.
func sightsOf(c *chip.Chip) ([]scan.Sight, api.Errno) {
	var l []scan.Sight
	for b := range c.Geo().Blocks {
		s, err := scan.Block(tables, c, b)
		if err != api.OK {
			return nil, err
		}
		l = append(l, s)
	}
	return l, api.OK
}

// latest are the pages that say what host pages are, of all blocks that are not marked.
func latest(t *testing.T, c *chip.Chip) []scan.Found {
	t.Helper()
	var l []scan.Found
	bad := marked(t, c)
	for b, s := range asked(t, c, sightsOf) {
		if !slices.Contains(bad, b) {
			l = append(l, s.Found...)
		}
	}
	return scan.Latest(l)
}

// torn are the blocks with pages that are neither blank nor can be read.
func torn(t *testing.T, c *chip.Chip) []int {
	t.Helper()
	var l []int
	for b, s := range asked(t, c, sightsOf) {
		if s.Torn > 0 {
			l = append(l, b)
		}
	}
	return l
}

// The commands.
const (
	write = iota + 1
	read
	trim
	flush
	tick
	mount
)

// event is a command, of that host page; seed chooses what is written.
type event struct {
	do, lpn int
	seed    uint32
}

// String tells it.
func (e event) String() string {
	names := []string{"?", "write", "read", "trim", "flush", "tick", "mount"}
	return names[e.do] + " " + strconv.Itoa(e.lpn)
}

// rig is a drive beside an array of its host pages: each command is done on both, and held against what the chapter says of all.
type rig struct {
	t     *testing.T
	plan  plan
	fates []api.Fate
	c     *chip.Chip
	d     *drive.Drive
	array [][]byte
	bad   []int // blocks that are marked
}

// formatted is a rig with a new device: if the power goes in its being formatted, it is mounted.
func formatted(t *testing.T, p plan, bad []int, fates ...api.Fate) *rig {
	t.Helper()
	r := &rig{t: t, plan: p, fates: fates, c: made(t, p.g, bad, fates...)}
	for range lpnsOf(p) {
		r.array = append(r.array, make([]byte, sizeOf(p.g)))
	}
	d, err := drive.Format(r.c, p.spares)
	switch err {
	case api.OK:
		r.d, r.bad = d, marked(t, r.c)
	case api.ErrPower:
		r.mount()
	default:
		t.Fatalf("Format(%+v) = %v", p, err)
	}
	r.keeps()
	return r
}

// mount switches the power on, and mounts the device, till the power stays.
func (r *rig) mount() {
	r.t.Helper()
	for range 300 {
		r.c.Power()
		d, err := drive.Mount(r.c, r.plan.spares)
		if err == api.OK {
			r.d, r.bad = d, marked(r.t, r.c)
			return
		}
		if d != nil || err != api.ErrPower {
			r.t.Fatalf("Mount(%+v) = %v, %v", r.plan, d, err)
		}
	}
	r.t.Fatal("the power of the device does not stay")
}

// page is what an event writes.
func (r *rig) page(e event) []byte {
	if e.do == write {
		return (&dice{e.seed}).page(r.plan.g)
	}
	return make([]byte, sizeOf(r.plan.g))
}

// failures are how many operations may have failed at the most, from one to another.
func (r *rig) failures(from, to int) int {
	n := 0
	for _, f := range r.fates {
		if f.Do == fail && f.At >= from && f.At < to {
			n++
		}
	}
	return n
}

// cuts tells whether the power was to go, from one operation to another.
func (r *rig) cuts(from, to int) bool {
	return slices.ContainsFunc(r.fates, func(f api.Fate) bool { return f.Do == cut && f.At >= from && f.At < to })
}

// broken is how many blocks can't be wiped, and are not marked.
func (r *rig) broken() int {
	n := 0
	for b := range r.plan.g.Blocks {
		if r.c.Broken(b) && !slices.Contains(r.bad, b) {
			n++
		}
	}
	return n
}

// command has the drive do an event.
func (r *rig) command(e event) ([]byte, api.Errno) {
	switch e.do {
	case write:
		return nil, r.d.Write(e.lpn, r.page(e))
	case read:
		return r.d.Read(e.lpn)
	case trim:
		return nil, r.d.Trim(e.lpn)
	case flush:
		return nil, r.d.Flush()
	case tick:
		return nil, r.d.Tick()
	}
	r.mount()
	return nil, api.OK
}

// do does an event on both, and is what the drive answers. Behind a loss of power it is mounted, and has what was in hand wholly, or not at all.
func (r *rig) do(e event) api.Errno {
	r.t.Helper()
	before, extra, shut := r.c.Ops(), r.broken(), r.d.ReadOnly()
	data, err := r.command(e)
	after := r.c.Ops()
	if n := after - before; e.do != mount && n > boundOf(r.plan.g, extra+r.failures(before, after)) {
		r.t.Fatalf("%v made %d operations", e, n)
	}
	if e.do != mount && extra == 0 && (err == api.ErrPower) != r.cuts(before, after) {
		r.t.Fatalf("%v = %v, of operations %d to %d", e, err, before, after)
	}
	changes := e.do == write || e.do == trim
	switch {
	case err == api.ErrPower:
		r.off(e)
		r.mount()
		r.inHand(e)
	case changes && err == api.ErrReadOnly && r.d.ReadOnly():
	case err != api.OK || changes && shut:
		r.t.Fatalf("%v = %v", e, err)
	case changes:
		r.array[e.lpn] = r.page(e)
	case e.do == read && !bytes.Equal(data, r.array[e.lpn]):
		r.t.Fatalf("%v = %v, want %v", e, data, r.array[e.lpn])
	}
	if extra+r.failures(before, r.c.Ops()) > 0 {
		r.bad = marked(r.t, r.c) // only then there may be more
	}
	r.keeps()
	if err != api.ErrPower && changes && !r.d.ReadOnly() && r.broken() > extra {
		r.t.Fatalf("%v left a block that broke without its mark", e)
	}
	return err
}

// off tells that without power all commands answer ErrPower, also when it is there again.
func (r *rig) off(e event) {
	r.t.Helper()
	for range 2 {
		ops := r.c.Ops()
		for do := write; do <= tick; do++ {
			x := event{do: do, lpn: e.lpn}
			data, err := r.command(x)
			want := api.ErrPower
			if r.d.ReadOnly() && (do == write || do == trim) {
				want = api.ErrReadOnly
			}
			if data != nil || err != want {
				r.t.Fatalf("%v = %v, %v behind a loss of power", x, data, err)
			}
		}
		is(r.t, "operations behind a loss of power", r.c.Ops(), ops)
		r.c.Power()
	}
}

// inHand lets the array have what the drive has of the event in which the power went.
func (r *rig) inHand(e event) {
	r.t.Helper()
	if e.do != write && e.do != trim {
		return
	}
	switch data := r.read(e.lpn); {
	case bytes.Equal(data, r.page(e)):
		r.array[e.lpn] = data
	case !bytes.Equal(data, r.array[e.lpn]):
		r.t.Fatalf("behind a loss of power in %v the page is %v, want %v or %v", e, data, r.page(e), r.array[e.lpn])
	}
}

// keeps tells what holds behind each command.
func (r *rig) keeps() {
	r.t.Helper()
	is(r.t, "operations that were refused", r.c.Refused(), 0)
	is(r.t, "Lost", r.d.Lost(), len(r.bad))
	is(r.t, "ReadOnly", r.d.ReadOnly(), r.d.Lost() > r.plan.spares)
	is(r.t, "Lpns", r.d.Lpns(), lpnsOf(r.plan))
	if r.t.Failed() {
		r.t.FailNow()
	}
}

// read is what the drive reads, mounted again for as often as its power goes.
func (r *rig) read(lpn int) []byte {
	r.t.Helper()
	for range 300 {
		data, err := r.d.Read(lpn)
		if err == api.OK {
			return data
		}
		if data != nil || err != api.ErrPower {
			r.t.Fatalf("Read(%d) = %v, %v", lpn, data, err)
		}
		r.mount()
	}
	r.t.Fatal("the power of the device does not stay")
	return nil
}

// reads tells that all host pages are as the array has them.
func (r *rig) reads() {
	r.t.Helper()
	for lpn, want := range r.array {
		if got := r.read(lpn); !bytes.Equal(got, want) {
			r.t.Fatalf("Read(%d) = %v, want %v", lpn, got, want)
		}
	}
}

// mounts tells that a copy, mounted, has what the array has, and that the Mount leaves all as it lies.
func (r *rig) mounts() {
	r.t.Helper()
	x := &rig{t: r.t, plan: r.plan, c: r.c.Copy(), array: r.array}
	before := asked(r.t, x.c, liesOf)
	x.mount()
	if !asked(r.t, x.c, liesOf).same(before) {
		r.t.Fatal("a Mount changed what lies on the device")
	}
	x.keeps()
	x.reads()
}

// plays does events, one behind another.
func (r *rig) plays(l []event) {
	r.t.Helper()
	for _, e := range l {
		r.do(e)
	}
}

// script are n events of all kinds: of the first host pages more than of the others.
func script(p plan, n int, seed uint32) []event {
	d := &dice{seed}
	var l []event
	for range n {
		lpn := d.below(lpnsOf(p))
		if d.below(2) == 0 {
			lpn = d.below(1 + lpnsOf(p)/4)
		}
		e := event{do: write, lpn: lpn, seed: uint32(d.below(1 << 20))}
		switch k := d.below(16); {
		case k < 3:
			e.do = trim
		case k < 5:
			e.do = read
		case k < 7:
			e.do = tick
		case k == 7:
			e.do = flush
		}
		l = append(l, e)
	}
	return l
}

// writes are n events that write and trim alone.
func writes(p plan, n int, seed uint32) []event {
	l := script(p, n, seed)
	for i := range l {
		if l[i].do != trim {
			l[i].do = write
		}
	}
	return l
}
