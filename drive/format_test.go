package drive_test

import (
	"bytes"
	"slices"
	"testing"

	"blackboard/api"
	"blackboard/chip"
	"blackboard/drive"
	"blackboard/frame"
)

// P20.1: Format, Lost, Lpns.

// refusals tells that neither a Format nor a Mount takes these, and that they make no operation.
func refusals(t *testing.T, c *chip.Chip, spares int) {
	t.Helper()
	before := c.Ops()
	for i, ask := range []func(c *chip.Chip, spares int) (*drive.Drive, api.Errno){drive.Format, drive.Mount} {
		if d, err := ask(c, spares); d != nil || err != api.ErrArg {
			t.Errorf("%d of %d spares = %v, %v", i, spares, d, err)
		}
	}
	is(t, "operations", c.Ops(), before)
}

func TestRefusedToFormat(t *testing.T) {
	t.Parallel()
	refusals(t, nil, 0)
	refusals(t, nil, -1)
	refusals(t, &chip.Chip{}, 0)
	for _, p := range plans() {
		c := made(t, p.g, nil)
		most := p.g.Blocks - apart - 1 // with one more, nothing is left
		for _, spares := range append([]int{most + 1, most + 2, p.g.Blocks, p.g.Blocks + 1}, far...) {
			refusals(t, c, spares)
		}
		for spares := range most + 1 {
			d, err := drive.Format(c, spares)
			if err != api.OK {
				t.Fatalf("Format(%+v, %d) = %v", p.g, spares, err)
			}
			is(t, "Lpns", d.Lpns(), lpnsOf(plan{p.g, spares}))
		}
	}
	dark := made(t, flat, nil, api.Fate{At: 0, Do: cut})
	dark.Erase(0)
	refusals(t, dark, 4) // ahead of the power, which is gone
}

// blank tells that nothing is left on a device but what is marked.
func blank(t *testing.T, c *chip.Chip) {
	t.Helper()
	bad := marked(t, c)
	for b, s := range asked(t, c, sightsOf) {
		if s.Used > 0 && !slices.Contains(bad, b) {
			t.Errorf("block %d is not blank", b)
		}
	}
}

// noughts tells that no host page has anything.
func noughts(t *testing.T, d *drive.Drive, p plan) {
	t.Helper()
	is(t, "Lpns", d.Lpns(), lpnsOf(p))
	for lpn := range lpnsOf(p) {
		data, err := d.Read(lpn)
		if err != api.OK || !bytes.Equal(data, make([]byte, sizeOf(p.g))) {
			t.Errorf("Read(%d) = %v, %v", lpn, data, err)
		}
	}
}

func TestFormatOfANewDevice(t *testing.T) {
	t.Parallel()
	for _, p := range append(plans(), plan{api.Geo{Blocks: 64, Pages: 32, W: 4, K: 64}, 7}) {
		r := formatted(t, p, nil)
		blank(t, r.c)
		noughts(t, r.d, p)
		is(t, "Lost", r.d.Lost(), 0)
		is(t, "ReadOnly", r.d.ReadOnly(), false)
		r.mount()
		noughts(t, r.d, p)
	}
}

// litter programs pages of all blocks: such as a drive writes, and others.
func litter(t *testing.T, c *chip.Chip, d *dice) {
	t.Helper()
	g := c.Geo()
	for b := range g.Blocks {
		for page := range d.below(g.Pages + 1) {
			m := api.Mark{Kind: 1 + d.below(3), Lpn: d.below(20), Seq: d.below(1 << 30)}
			s, err := frame.Make(tables, g, m, d.page(g))
			if err != api.OK {
				t.Fatal(err)
			}
			if d.below(5) == 0 {
				s[d.below(len(s))] ^= 5
			}
			if err := c.Program(b, page, s); err != api.OK {
				t.Fatal(err)
			}
		}
	}
}

func TestFormatOfAUsedDevice(t *testing.T) {
	t.Parallel()
	for i, p := range plans() {
		c := made(t, p.g, nil)
		litter(t, c, &dice{uint32(i)})
		for range 3 {
			d, err := drive.Format(c, p.spares)
			if err != api.OK {
				t.Fatalf("Format(%+v) = %v", p, err)
			}
			blank(t, c)
			noughts(t, d, p)
			r := &rig{t: t, plan: p, c: c, d: d}
			for range lpnsOf(p) {
				r.array = append(r.array, make([]byte, sizeOf(p.g)))
			}
			r.mounts()
			r.plays(script(p, 100, uint32(i)))
			r.reads()
		}
	}
}

func TestFormatOfMarkedBlocks(t *testing.T) {
	t.Parallel()
	for _, p := range plans() {
		for n := range p.g.Blocks + 1 {
			var bad []int
			for b := range n {
				bad = append(bad, (b*3+1)%p.g.Blocks)
			}
			slices.Sort(bad)
			bad = slices.Compact(bad)
			c := made(t, p.g, nil)
			litter(t, c, &dice{uint32(n)})
			for _, b := range bad {
				c.Mark(b)
			}
			before := asked(t, c, sightsOf)
			d, err := drive.Format(c, p.spares)
			if err != api.OK {
				t.Fatalf("Format(%+v) = %v", p, err)
			}
			blank(t, c)
			noughts(t, d, p)
			is(t, "Lost", d.Lost(), len(bad))
			is(t, "ReadOnly", d.ReadOnly(), len(bad) > p.spares)
			is(t, "operations that were refused", c.Refused(), 0)
			for b, s := range asked(t, c, sightsOf) {
				if slices.Contains(bad, b) && (s.Used != before[b].Used || c.Erases(b) > 0) {
					t.Errorf("block %d is marked, and was wiped", b)
				}
			}
			d, err = drive.Mount(c, p.spares) // what lies in them says nothing
			if err != api.OK {
				t.Fatalf("Mount(%+v) = %v", p, err)
			}
			noughts(t, d, p)
		}
	}
}

// formats is a device that was formatted with these fates, and the drive.
func formats(t *testing.T, p plan, bad []int, fates ...api.Fate) (*chip.Chip, *drive.Drive) {
	t.Helper()
	c := made(t, p.g, bad, fates...)
	d, err := drive.Format(c, p.spares)
	if d == nil || err != api.OK {
		t.Fatalf("Format(%+v) = %v, %v", p, d, err)
	}
	return c, d
}

// brokenOf are the blocks that can't be wiped.
func brokenOf(c *chip.Chip) []int {
	var l []int
	for b := range c.Geo().Blocks {
		if c.Broken(b) {
			l = append(l, b)
		}
	}
	return l
}

// Blocks can't be wiped: any two operations of a Format fail, besides a block that is marked, or all from one on.
func TestFormatOfBlocksThatCannotBeErased(t *testing.T) {
	t.Parallel()
	times := map[int]int{}
	for _, p := range []plan{{api.Geo{Blocks: 7, Pages: 2, W: 1, K: 9}, 0}, {api.Geo{Blocks: 7, Pages: 2, W: 1, K: 9}, 2}} {
		c, _ := formats(t, p, []int{3})
		n := c.Ops()
		var l [][]api.Fate
		for a := range n {
			var all []api.Fate
			for b := a; b < n+20; b++ {
				all = append(all, api.Fate{At: b, Do: fail})
				l = append(l, []api.Fate{{At: a, Do: fail}, {At: b + 1, Do: fail, Keep: 2}})
			}
			l = append(l, all)
		}
		for _, fates := range l {
			c, d := formats(t, p, []int{3}, fates...)
			lost := append(brokenOf(c), 3)
			slices.Sort(lost)
			if got := marked(t, c); !slices.Equal(got, lost) {
				t.Errorf("%v: marked are %v, want %v", fates, got, lost)
			}
			is(t, "Lost", d.Lost(), len(lost))
			is(t, "ReadOnly", d.ReadOnly(), len(lost) > p.spares)
			is(t, "operations that were refused", c.Refused(), 0)
			blank(t, c)
			noughts(t, d, p)
			times[len(lost)]++
		}
	}
	if times[1] == 0 || times[2] == 0 || times[3] == 0 || times[7] == 0 {
		t.Errorf("so often so many were lost: %v", times)
	}
}

// used is a device with which a drive was busy, and an array of what it has.
func used(t *testing.T, p plan, fates ...api.Fate) *rig {
	t.Helper()
	r := formatted(t, p, nil, fates...)
	r.plays(writes(p, 120, 8))
	return r
}

// The power goes in a Format, at each operation, with each number of pages that are wiped.
func TestPowerGoesInAFormat(t *testing.T) {
	t.Parallel()
	for _, p := range plans()[:7] {
		c, _ := formats(t, p, nil)
		for at := range c.Ops() {
			for keep := range p.g.Pages + 1 {
				c := made(t, p.g, nil, api.Fate{At: at, Do: cut, Keep: keep})
				d, err := drive.Format(c, p.spares)
				if d != nil || err != api.ErrPower || c.Ops() != at+1 {
					t.Fatalf("Format = %v, %v, and %d operations", d, err, c.Ops())
				}
				c.Power()
				d, err = drive.Mount(c, p.spares)
				if err != api.OK {
					t.Fatalf("Mount behind a Format = %v", err)
				}
				noughts(t, d, p)
				d, err = drive.Format(c, p.spares)
				if err != api.OK {
					t.Fatalf("Format behind a Format = %v", err)
				}
				noughts(t, d, p)
			}
		}
	}
}

// The same, of a device that was used: formatted again it has nothing; mounted, all can be written.
func TestPowerGoesInAFormatOfAUsedDevice(t *testing.T) {
	t.Parallel()
	l := plans()[:7]
	several(t, len(l), func(t *testing.T, i int) {
		p := l[i]
		from := used(t, p).c.Ops()
		for at := range 2 * p.g.Blocks {
			for keep := range p.g.Pages + 1 {
				r := used(t, p, api.Fate{At: from + at, Do: cut, Keep: keep})
				d, err := drive.Format(r.c, p.spares)
				if d != nil || err != api.ErrPower {
					t.Fatalf("Format = %v, %v", d, err)
				}
				r.mount()
				for lpn := range r.array {
					r.do(event{do: write, lpn: lpn, seed: uint32(at)})
				}
				r.plays(script(p, 60, uint32(keep)))
				r.reads()
				d, err = drive.Format(r.c, p.spares)
				if err != api.OK {
					t.Fatalf("Format behind a Format = %v", err)
				}
				noughts(t, d, p)
				is(t, "operations that were refused", r.c.Refused(), 0)
			}
		}
	})
}
