package drive_test

import (
	"slices"
	"strconv"
	"testing"

	"blackboard/api"
	"blackboard/chip"
	"blackboard/drive"
	"blackboard/frame"
)

// P20.3: what lasts, wherever the power goes.

// opsOf is how many operations there are in all: the formatting, and the script.
func opsOf(t *testing.T, p plan, l []event, fates ...api.Fate) int {
	t.Helper()
	r := formatted(t, p, nil, fates...)
	r.plays(l)
	return r.c.Ops()
}

// several does a test for each number below n, side by side.
func several(t *testing.T, n int, test func(t *testing.T, i int)) {
	t.Helper()
	for i := range n {
		t.Run(strconv.Itoa(i), func(t *testing.T) {
			t.Parallel()
			test(t, i)
		})
	}
}

// The power goes at each operation, with each number of cells, or of pages, that are done yet.
func TestPowerGoesAtEachOperation(t *testing.T) {
	t.Parallel()
	for _, p := range []plan{{flat, 0}, {flat, 1}, {tall, 0}} {
		l := script(p, 40, 1)
		to := opsOf(t, p, l)
		several(t, cellsOf(p.g)+2, func(t *testing.T, keep int) {
			for at := range to {
				r := formatted(t, p, nil, api.Fate{At: at, Do: cut, Keep: keep})
				r.plays(l)
				r.reads()
				r.mounts()
			}
		})
	}
}

// The power goes at an operation, and again at each one of the Mount behind it.
func TestPowerGoesInAMount(t *testing.T) {
	t.Parallel()
	for _, p := range []plan{{flat, 0}, {tall, 0}} {
		l := writes(p, 30, 2)
		to := opsOf(t, p, l)
		several(t, p.g.Blocks*(p.g.Pages+1), func(t *testing.T, behind int) {
			for at := range to {
				keep := (at * 7) % (cellsOf(p.g) + 1)
				r := formatted(t, p, nil, api.Fate{At: at, Do: cut, Keep: keep}, api.Fate{At: at + 1 + behind, Do: cut, Keep: 1})
				r.plays(l)
				r.reads()
			}
		})
	}
}

// everySo are cuts all along, so far apart that a Mount comes to its end between them.
func everySo(g api.Geo, d *dice, keep func() int) []api.Fate {
	var l []api.Fate
	whole := g.Blocks * (g.Pages + 1)
	for at := d.below(whole); len(l) < 250; at += whole/2 + d.below(2*whole) {
		l = append(l, api.Fate{At: at, Do: cut, Keep: keep()})
	}
	return l
}

// The power goes again and again: while pages are moved, while they are wiped.
func TestPowerGoesAllTheTime(t *testing.T) {
	t.Parallel()
	l := plans()
	several(t, 12*len(l), func(t *testing.T, i int) {
		p, d := l[i%len(l)], &dice{uint32(i)}
		keep := func() int { return d.below(cellsOf(p.g) + 1) }
		if i%2 == 0 {
			keep = func() int { return d.below(p.g.Pages + 1) } // little is programmed, and wiped in part
		}
		r := formatted(t, p, nil, everySo(p.g, d, keep)...)
		r.plays(script(p, 150, uint32(i)))
		r.reads()
		r.mounts()
		is(t, "ReadOnly", r.d.ReadOnly(), false)
	})
}

// Pages of a program that was cut off are there if they can be read, and stay as they are.
func TestWhatIsInHandIsWholeOrNotAtAll(t *testing.T) {
	t.Parallel()
	p := plan{flat, 0}
	written, left := 0, 0
	for keep := range cellsOf(p.g) + 1 {
		r := formatted(t, p, nil)
		first := event{do: write, lpn: 1, seed: 5}
		r.do(first)
		at := r.c.Ops()
		r = formatted(t, p, nil, api.Fate{At: at, Do: cut, Keep: keep})
		r.do(first)
		second := event{do: write, lpn: 1, seed: 6}
		is(t, "Write as the power goes", r.do(second), api.ErrPower)
		if slices.Equal(r.array[1], r.page(second)) {
			written++
		} else {
			left++
		}
		for range 3 {
			r.mount()
			r.reads()
		}
	}
	is(t, "how often it was written wholly", written, most+1)
	is(t, "how often it was not written", left, cellsOf(p.g)-most)
}

// Mounted behind each command, the drive goes on.
func TestMountBehindEachCommand(t *testing.T) {
	t.Parallel()
	l := plans()
	several(t, len(l), func(t *testing.T, i int) {
		r := formatted(t, l[i], nil)
		for _, e := range script(l[i], 300, uint32(i)) {
			r.do(e)
			r.mounts()
			if i%2 == 0 || e.seed%3 == 0 {
				r.mount()
			}
		}
	})
}

// The power goes in a command, each time that it is tried again, wherever and with as little or as much done as may be: however often that is, there is room for it in the end.
func TestPowerGoesInEachTry(t *testing.T) {
	t.Parallel()
	for _, p := range []plan{{tall, 0}, {api.Geo{Blocks: 7, Pages: 5, W: 1, K: 9}, 2}, {api.Geo{Blocks: 6, Pages: 8, W: 1, K: 9}, 0}} {
		l := writes(p, 60, 7)
		several(t, len(l), func(t *testing.T, n int) {
			for seed := range uint32(12) {
				d := &dice{seed}
				var fates []api.Fate
				r := tried(t, p, l[:n], l[n], fates)
				for range 9 {
					keep := []int{0, 1, d.below(p.g.Pages), cellsOf(p.g)}[d.below(4)]
					more := append(fates, api.Fate{At: r.c.Ops() + d.below(p.g.Pages*2), Do: cut, Keep: keep})
					if x := tried(t, p, l[:n], l[n], more); x != nil { // else it was done ahead of that
						r, fates = x, more
					}
				}
				is(t, "the last time", r.do(l[n]), api.OK)
				r.plays(l[n:])
				r.reads()
			}
		})
	}
}

// tried is a rig that did these events, and then one that was cut off at each of these fates: nil, where it was done.
func tried(t *testing.T, p plan, l []event, e event, fates []api.Fate) *rig {
	t.Helper()
	r := formatted(t, p, nil, fates...)
	r.plays(l)
	for range fates {
		if r.do(e) == api.OK {
			return nil
		}
	}
	return r
}

// What was trimmed stays so, however many elder pages of it lie about.
func TestTrimmedStaysTrimmed(t *testing.T) {
	t.Parallel()
	l := plans()
	several(t, len(l), func(t *testing.T, i int) {
		p := l[i]
		r := formatted(t, p, nil)
		n := lpnsOf(p)
		for round := range 40 {
			for lpn := range n {
				r.do(event{do: write, lpn: lpn, seed: uint32(round)})
			}
			x := round % n
			r.do(event{do: trim, lpn: x})
			r.mounts()
			for range round % 7 * p.g.Pages {
				r.do(event{do: write, lpn: (x + 1) % n, seed: uint32(round)})
			}
			r.reads()
			r.mounts()
			if round%3 == 0 {
				r.mount()
			}
		}
	})
}

// One host page is written once, and moved very often, while another is written all the time.
func TestMovedVeryOften(t *testing.T) {
	t.Parallel()
	r := formatted(t, plan{api.Geo{Blocks: 4, Pages: 4, W: 1, K: 9}, 0}, nil)
	r.do(event{do: write, lpn: 0, seed: 9})
	moved, lay := 0, -1
	for i := range 6000 {
		r.do(event{do: write, lpn: 1, seed: uint32(i)})
		if at := latest(t, r.c)[0].Page; at != lay {
			lay = at
			moved++
		}
		if i%50 == 0 {
			r.mounts()
			r.reads()
		}
	}
	r.mounts()
	if moved < 300 {
		t.Errorf("the page was moved %d times", moved)
	}
}

// A device without power is neither mounted nor formatted.
func TestMountOfADarkDevice(t *testing.T) {
	t.Parallel()
	c := made(t, flat, nil, api.Fate{At: 0, Do: cut})
	if err := c.Erase(0); err != api.ErrPower {
		t.Fatal(err)
	}
	for _, make := range []func(c *chip.Chip, spares int) (*drive.Drive, api.Errno){drive.Mount, drive.Format} {
		d, err := make(c, 0)
		if d != nil || err != api.ErrPower {
			t.Errorf("without power: %v, %v", d, err)
		}
	}
	is(t, "operations", c.Ops(), 1)
	c.Power()
	d, err := drive.Mount(c, 0)
	if d == nil || err != api.OK {
		t.Errorf("with power: %v, %v", d, err)
	}
}

// Mounted again and again, a drive does not wipe all that is blank.
func TestMountedDriveWipesLittle(t *testing.T) {
	t.Parallel()
	p := plan{api.Geo{Blocks: 32, Pages: 2, W: 1, K: 9}, 20}
	r := formatted(t, p, nil)
	for i := range 100 {
		r.mount()
		r.do(event{do: write, lpn: i % lpnsOf(p), seed: uint32(i)})
	}
	n := 0
	for b := range p.g.Blocks {
		n += r.c.Erases(b)
	}
	if n > 500 {
		t.Errorf("%d blocks were wiped", n)
	}
}

// Pages such as no drive of this plan writes say nothing.
func TestMountOfPagesThatSayNothing(t *testing.T) {
	t.Parallel()
	for _, p := range plans() {
		r := formatted(t, p, nil)
		r.do(event{do: write, lpn: 0, seed: 1})
		for i, m := range []api.Mark{{Kind: 3, Lpn: 0, Seq: 1 << 20}, {Kind: 1023, Lpn: 0, Seq: 1 << 21}, {Kind: dataKind, Lpn: lpnsOf(p), Seq: 1 << 22}, {Kind: trimKind, Lpn: 1<<20 - 1, Seq: 1 << 23}} {
			s, err := frame.Make(tables, p.g, m, make([]byte, sizeOf(p.g)))
			if err != api.OK {
				t.Fatal(err)
			}
			b := p.g.Blocks - 1 - i/p.g.Pages
			if err := r.c.Program(b, i%p.g.Pages, s); err != api.OK {
				t.Fatal(err)
			}
		}
		r.mount()
		r.reads()
		r.plays(script(p, 60, 1))
		r.reads()
	}
}

// A page has the greatest Seq of all: there is no number left for what would be written behind it.
func TestMountOfTheGreatestSeq(t *testing.T) {
	t.Parallel()
	p := plan{tall, 1}
	for _, seq := range []int{1<<40 - 1, 1<<40 - 256} {
		r := formatted(t, p, nil)
		s, err := frame.Make(tables, p.g, api.Mark{Kind: dataKind, Lpn: 1, Seq: seq}, make([]byte, sizeOf(p.g)))
		if err != api.OK {
			t.Fatal(err)
		}
		if err := r.c.Program(2, 0, s); err != api.OK {
			t.Fatal(err)
		}
		r.mount()
		is(t, "Write", r.d.Write(0, make([]byte, sizeOf(p.g))), api.ErrFull)
		is(t, "Trim", r.d.Trim(1), api.ErrFull)
		wrong(t, r.c, 2*p.g.Pages, 0, 0, due)
		for range p.g.Blocks * p.g.Pages {
			is(t, "Tick", r.d.Tick(), api.OK)
		}
		r.keeps()
		r.reads()
	}
}

// A device with which nothing was done is like one that was formatted; and of a drive with fewer spares what there is room for is there.
func TestMountOfOtherDevices(t *testing.T) {
	t.Parallel()
	r := formatted(t, plan{flat, 0}, nil)
	r.c = made(t, flat, nil)
	r.mount()
	r.reads()
	r.plays(script(r.plan, 100, 3))

	elder := formatted(t, plan{flat, 0}, nil)
	elder.plays(writes(elder.plan, 50, 4))
	fewer := &rig{t: t, plan: plan{flat, 1}, c: elder.c, array: elder.array[:2]}
	fewer.mount()
	fewer.keeps()
	fewer.reads()
	fewer.plays(script(fewer.plan, 100, 5))
	fewer.reads()
}
