package drive_test

import (
	"bytes"
	"slices"
	"testing"

	"blackboard/api"
	"blackboard/chip"
	"blackboard/drive"
	"blackboard/frame"
	"blackboard/point"
	"blackboard/scan"
)

// P20.2: Tick, and what cannot be read any more.

// wrong moves n cells of a codeword of a page to the next symbol, from that one on.
func wrong(t *testing.T, c *chip.Chip, page, word, from, n int) {
	t.Helper()
	g := c.Geo()
	p := points(t, c, page/g.Pages, page%g.Pages)
	for i := range n {
		cell := (from+i)%(g.K+parity)*g.W + word
		by := complex(2, 0)
		if real(p[cell]) > 0 {
			by = -by
		}
		if !c.Drift(page/g.Pages, page%g.Pages, cell, by) {
			t.Fatalf("cell %d of page %d does not move", cell, page)
		}
	}
}

// points are a page's.
func points(t *testing.T, c *chip.Chip, block, page int) []complex128 {
	t.Helper()
	return asked(t, c, func(c *chip.Chip) ([]complex128, api.Errno) { return c.Sense(block, page) })
}

// at is the page that says what a host page is.
func at(t *testing.T, c *chip.Chip, lpn int) scan.Found {
	t.Helper()
	for _, f := range latest(t, c) {
		if f.Mark.Lpn == lpn {
			return f
		}
	}
	t.Fatalf("host page %d lies nowhere", lpn)
	return scan.Found{}
}

// round is a whole round of the patrol, and a bit of the next one.
func (r *rig) round() {
	r.t.Helper()
	for range r.plan.g.Blocks * r.plan.g.Pages {
		if err := r.do(event{do: tick}); err != api.OK {
			r.t.Fatalf("Tick = %v", err)
		}
	}
}

// filled is a rig in which each host page was written, and one in five trimmed.
func filled(t *testing.T, p plan) *rig {
	t.Helper()
	r := formatted(t, p, nil)
	r.plays(script(p, 3*lpnsOf(p), 1))
	for lpn := range lpnsOf(p) {
		r.do(event{do: write, lpn: lpn, seed: uint32(lpn)})
		if lpn%5 == 4 {
			r.do(event{do: trim, lpn: lpn})
		}
	}
	return r
}

// Nothing is due: a Tick reads one page, and nothing is written.
func TestNothingIsDue(t *testing.T) {
	t.Parallel()
	for _, p := range plans() {
		for _, n := range []int{0, 1, due - 1} {
			r := filled(t, p)
			for page := range p.g.Blocks * p.g.Pages {
				for w := range p.g.W {
					if n > 0 && !isBlank(t, r.c, page) {
						wrong(t, r.c, page, w, page, n)
					}
				}
			}
			before, ops := asked(t, r.c, liesOf), r.c.Ops()
			r.round()
			r.round()
			is(t, "nothing is written", asked(t, r.c, liesOf).same(before), true)
			is(t, "operations", r.c.Ops()-ops, 2*p.g.Blocks*p.g.Pages)
			r.reads()
		}
	}
}

// isBlank tells whether nothing was programmed on a page.
func isBlank(t *testing.T, c *chip.Chip, page int) bool {
	t.Helper()
	for _, x := range points(t, c, page/c.Geo().Pages, page%c.Geo().Pages) {
		if x != 0 {
			return false
		}
	}
	return true
}

// Each page that says what a host page is has as many wrong in one of its codewords: behind a round none has four or more, and where one had it lies elsewhere.
func TestDuePagesAreWrittenAnew(t *testing.T) {
	t.Parallel()
	l := plans()
	several(t, len(l), func(t *testing.T, i int) {
		p := l[i]
		for n := due; n <= most; n++ {
			r := filled(t, p)
			var lay []scan.Found
			for _, f := range latest(t, r.c) {
				lay = append(lay, f)
				wrong(t, r.c, f.Page, f.Page%p.g.W, n+f.Page, n)
			}
			r.round()
			for j, f := range latest(t, r.c) {
				if f.Wrong >= due {
					t.Errorf("%+v: host page %d has %d wrong behind a round", p, f.Mark.Lpn, f.Wrong)
				}
				if f.Page == lay[j].Page || f.Mark.Kind != lay[j].Mark.Kind {
					t.Errorf("%+v: host page %d with %d wrong lies where it lay", p, f.Mark.Lpn, n)
				}
			}
			r.reads()
			r.mounts()
		}
	})
}

// The pages are read in the order of their numbers: it is the Tick of a page that writes it anew.
func TestTicksGoRound(t *testing.T) {
	t.Parallel()
	p := plan{tall, 0}
	pages := p.g.Blocks * p.g.Pages
	for lpn := range lpnsOf(p) {
		for _, mounted := range []bool{false, true} {
			r := filled(t, p)
			if mounted {
				r.mount()
			} else {
				for i := 2*p.g.Blocks*p.g.Pages - ticksOf(p); i > 0; i-- {
					r.do(event{do: tick}) // to the end of a round
				}
			}
			f := at(t, r.c, lpn)
			wrong(t, r.c, f.Page, 0, 3, due)
			for k := range pages {
				r.do(event{do: tick})
				if lies := at(t, r.c, lpn).Page; (lies != f.Page) != (k >= f.Page) {
					t.Fatalf("behind Tick %d page %d lies at %d", k, f.Page, lies)
				}
			}
		}
	}
}

// ticksOf is how many Ticks there are in what filled does.
func ticksOf(p plan) int {
	n := 0
	for _, e := range script(p, 3*lpnsOf(p), 1) {
		if e.do == tick {
			n++
		}
	}
	return n
}

// All pages move all the time, up to four symbols of a codeword between two visits: what is written is read rightly, for ever so long (T2).
func TestItDoesNotRot(t *testing.T) {
	t.Parallel()
	l := plans()[:8]
	several(t, len(l), func(t *testing.T, i int) {
		p, d := l[i], &dice{uint32(i)}
		r := filled(t, p)
		pages := p.g.Blocks * p.g.Pages
		for round := range 6 {
			for k := range pages {
				// Just behind its visit, and not again till the next one, a page moves by all that may be.
				r.do(event{do: tick})
				for w := range p.g.W {
					if !isBlank(t, r.c, k) {
						stir(r.c, k, w, d)
					}
				}
				if k%5 == round%5 {
					e := event{do: write, lpn: d.below(lpnsOf(p)), seed: uint32(k)}
					r.do(e)
				}
			}
			r.reads()
		}
	})
}

// stir moves four symbols of a codeword, wherever they are by now.
func stir(c *chip.Chip, page, word int, d *dice) {
	g := c.Geo()
	for range due {
		cell := d.below(g.K+parity)*g.W + word
		c.Drift(page/g.Pages, page%g.Pages, cell, complex(float64(2*d.below(9)-8), float64(2*d.below(9)-8)))
	}
}

// gone makes a page one that is beyond mending.
func gone(t *testing.T, c *chip.Chip, page int) {
	t.Helper()
	wrong(t, c, page, c.Geo().W-1, 1, most+1)
}

// A page is beyond mending: what lay there can't be read till it is written or trimmed, whatever befalls meanwhile, and nothing else is harmed.
func TestBeyondMending(t *testing.T) {
	t.Parallel()
	l := plans()[1:]
	several(t, len(l), func(t *testing.T, i int) {
		p := l[i]
		for _, lpn := range []int{0, lpnsOf(p) - 1} {
			r := formatted(t, p, nil)
			for x := range lpnsOf(p) {
				r.do(event{do: write, lpn: x, seed: uint32(x)})
			}
			gone(t, r.c, at(t, r.c, lpn).Page)
			data := func() {
				t.Helper()
				if b, err := r.d.Read(lpn); b != nil || err != api.ErrData {
					t.Fatalf("Read(%d) = %v, %v", lpn, b, err)
				}
			}
			data()
			r.round()
			data()
			for k := range 4 * p.g.Blocks * p.g.Pages {
				x := k % lpnsOf(p)
				if x == lpn {
					r.do(event{do: tick})
				} else {
					r.do(event{do: write, lpn: x, seed: uint32(k)})
				}
				others(t, r, lpn)
			}
			data()
			r.round()
			data()
			r.do(event{do: []int{write, trim}[lpn%2], lpn: lpn, seed: 77})
			r.reads()
			r.mounts()
		}
	})
}

// A page says something of another host page, or that it was trimmed: it is no page of this one any more.
func TestPagesThatSayAnotherThing(t *testing.T) {
	t.Parallel()
	for _, p := range plans()[1:] {
		for _, m := range []api.Mark{{Kind: dataKind, Lpn: 1}, {Kind: trimKind, Lpn: 0}, {Kind: 3, Lpn: 0}} {
			r := formatted(t, p, nil)
			r.do(event{do: write, lpn: 0, seed: 1})
			s, err := frame.Make(tables, p.g, m, make([]byte, sizeOf(p.g)))
			if err != api.OK {
				t.Fatal(err)
			}
			page := at(t, r.c, 0).Page
			for i, x := range points(t, r.c, page/p.g.Pages, page%p.g.Pages) {
				r.c.Drift(page/p.g.Pages, page%p.g.Pages, i, point.Of(s[i])-x)
			}
			if data, err := r.d.Read(0); data != nil || err != api.ErrData {
				t.Errorf("Read = %v, %v where the page says %+v", data, err, m)
			}
		}
	}
}

// Elder pages come back, as many as can, when the later ones are beyond mending and all is mounted: there is room for all still.
func TestEldersComeBack(t *testing.T) {
	t.Parallel()
	for _, p := range []plan{{tall, 0}, {api.Geo{Blocks: 8, Pages: 6, W: 1, K: 9}, 1}, {api.Geo{Blocks: 9, Pages: 4, W: 1, K: 9}, 0}} {
		n := lpnsOf(p)
		rounds := p.g.Blocks * p.g.Pages / n // as many elder pages of each there are at the most, without those of blocks that were wiped
		several(t, 2*p.g.Blocks*p.g.Pages, func(t *testing.T, i int) {
			for _, behind := range []int{1, 7} { // how long ago it was mounted
				r := formatted(t, p, nil)
				for k := range i + 1 {
					if k == i-behind {
						r.mount()
					}
					r.do(event{do: write, lpn: k % n, seed: uint32(k)})
				}
				spoil(t, r.c, rounds)
				d, err := drive.Mount(r.c, p.spares)
				if err != api.OK {
					t.Fatal(err)
				}
				for lpn := range n {
					if err := d.Write(lpn, make([]byte, sizeOf(p.g))); err != api.OK {
						t.Fatalf("Write(%d) = %v", lpn, err)
					}
				}
				noughts(t, d, p)
			}
		})
	}
}

// spoil makes the later pages of each host page such as are beyond mending: of the first one none, of the second the last, .., and again none.
func spoil(t *testing.T, c *chip.Chip, rounds int) {
	t.Helper()
	var found []scan.Found
	for _, s := range asked(t, c, sightsOf) {
		found = append(found, s.Found...)
	}
	slices.SortFunc(found, func(a, b scan.Found) int { return b.Mark.Seq - a.Mark.Seq })
	left := map[int]int{}
	for _, f := range found {
		if left[f.Mark.Lpn]++; left[f.Mark.Lpn] <= f.Mark.Lpn%rounds {
			gone(t, c, f.Page)
		}
	}
}

// others tells that all host pages but one are as the array has them.
func others(t *testing.T, r *rig, lpn int) {
	t.Helper()
	for x, want := range r.array {
		if x == lpn {
			continue
		}
		if got, err := r.d.Read(x); err != api.OK || !bytes.Equal(got, want) {
			t.Fatalf("Read(%d) = %v, %v, want %v", x, got, err, want)
		}
	}
}

// What was trimmed is noughts, also when the page that says so is beyond mending, and its block is written again.
func TestTrimmedBeyondMending(t *testing.T) {
	t.Parallel()
	for _, p := range plans() {
		n := lpnsOf(p)
		if n == 1 {
			continue
		}
		r := formatted(t, p, nil)
		r.do(event{do: write, lpn: 0, seed: 4})
		r.do(event{do: trim, lpn: 0})
		gone(t, r.c, at(t, r.c, 0).Page)
		for k := range 6 * p.g.Blocks * p.g.Pages {
			r.do(event{do: write, lpn: 1 + k%(n-1), seed: uint32(k)})
			r.do(event{do: tick})
			r.reads()
		}
	}
}

// Pages move in any way, and the power goes, and some operations fail: no lie is told while the power stays, all can be written, nothing is refused.
func TestAllMoves(t *testing.T) {
	t.Parallel()
	l := plans()
	several(t, 6*len(l), func(t *testing.T, i int) {
		p, d := l[i%len(l)], &dice{uint32(i)}
		fates := everySo(p.g, d, func() int { return d.below(cellsOf(p.g) + 1) })[:40]
		for range p.spares {
			fates[d.below(30)].Do = fail
		}
		r := formatted(t, p, nil, fates...)
		known := make([][]byte, lpnsOf(p)) // what was written since the power went
		for _, e := range script(p, 250, uint32(i)) {
			data, err := r.command(e)
			switch {
			case err == api.ErrPower:
				r.mount()
				clear(known)
			case e.do == read && err == api.ErrData:
			case err != api.OK:
				t.Fatalf("%v = %v", e, err)
			case e.do == read && known[e.lpn] != nil && !bytes.Equal(data, known[e.lpn]):
				t.Fatalf("%v = %v, want %v", e, data, known[e.lpn])
			case e.do == write || e.do == trim:
				known[e.lpn] = r.page(e)
			}
			moveAny(t, r.c, d)
			r.bad = marked(t, r.c)
			r.keeps()
		}
		is(t, "ReadOnly", r.d.ReadOnly(), false)
	})
}

// moveAny moves some cells of some pages, or all of one to where it has no charge.
func moveAny(t *testing.T, c *chip.Chip, d *dice) {
	t.Helper()
	g := c.Geo()
	for range d.below(20) {
		b, page := d.below(g.Blocks), d.below(g.Pages)
		c.Drift(b, page, d.below(cellsOf(g)), complex(float64(d.below(9)-4), float64(d.below(9)-4)))
	}
	if d.below(40) == 0 {
		b, page := d.below(g.Blocks), d.below(g.Pages)
		for i, x := range points(t, c, b, page) {
			c.Drift(b, page, i, -x)
		}
	}
}

// ReadOnly: a Tick reads, and writes nothing, whatever is due.
func TestTickWhereItIsReadOnly(t *testing.T) {
	t.Parallel()
	for _, p := range plans() {
		r := filled(t, p)
		lost := 0
		for b := p.g.Blocks - 1; lost <= p.spares && b >= 0; b-- {
			if holdsNothing(t, r.c, b) {
				r.c.Mark(b)
				lost++
			}
		}
		r.mount()
		is(t, "ReadOnly", r.d.ReadOnly(), true)
		for _, f := range latest(t, r.c) {
			wrong(t, r.c, f.Page, 0, 0, due+1)
		}
		before, ops := asked(t, r.c, liesOf), r.c.Ops()
		r.round()
		is(t, "nothing is written", asked(t, r.c, liesOf).same(before), true)
		is(t, "operations", r.c.Ops()-ops, p.g.Blocks*p.g.Pages)
		r.reads()
	}
}

// holdsNothing tells whether a block has no page that says what a host page is.
func holdsNothing(t *testing.T, c *chip.Chip, block int) bool {
	t.Helper()
	for _, f := range latest(t, c) {
		if f.Page/c.Geo().Pages == block {
			return false
		}
	}
	return true
}

// The power goes, or an operation fails, while a page is written anew.
func TestTickIsCutOff(t *testing.T) {
	t.Parallel()
	p := plan{api.Geo{Blocks: 6, Pages: 4, W: 1, K: 10}, 1}
	turn := func(fates ...api.Fate) *rig {
		r := formatted(t, p, nil, fates...)
		for k := range 30 {
			r.do(event{do: write, lpn: k % lpnsOf(p), seed: uint32(k)})
		}
		for _, f := range latest(t, r.c) {
			wrong(t, r.c, f.Page, 0, 0, most)
		}
		return r
	}
	r := turn()
	from := r.c.Ops()
	r.round()
	for at := from; at < r.c.Ops(); at++ {
		for keep := range cellsOf(p.g) + 1 {
			x := turn(api.Fate{At: at, Do: 1 + keep%2, Keep: keep})
			for range p.g.Blocks * p.g.Pages {
				x.do(event{do: tick})
			}
			x.reads()
			x.mounts()
		}
	}
}

// A cell's moving to nought makes its symbol wrong, too: a page of noughts is no blank one.
func TestPagesThatLookBlank(t *testing.T) {
	t.Parallel()
	p := plan{flat, 0}
	r := formatted(t, p, nil)
	r.plays(writes(p, 50, 2))
	for page := range p.g.Blocks * p.g.Pages {
		for i, x := range points(t, r.c, page/p.g.Pages, page%p.g.Pages) {
			r.c.Drift(page/p.g.Pages, page%p.g.Pages, i, -x)
		}
	}
	for lpn := range lpnsOf(p) {
		if _, err := r.d.Read(lpn); err != api.ErrData {
			t.Errorf("Read(%d) = %v", lpn, err)
		}
	}
	d, err := drive.Mount(r.c, p.spares)
	if err != api.OK {
		t.Fatal(err)
	}
	noughts(t, d, p)
	r.d = d
	for lpn := range r.array {
		r.array[lpn] = make([]byte, sizeOf(p.g))
	}
	r.plays(writes(p, 50, 3)) // and nothing is refused
	r.reads()
}
