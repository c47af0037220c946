package drive

import (
	"slices"
	"testing"

	"blackboard/api"
	"blackboard/chip"
	"blackboard/field"
	"blackboard/geo"
	"blackboard/lmap"
	"blackboard/scan"
	"blackboard/yard"
)

// What the promises about room rest on: how many blocks are free at any time.

// dice throw what looks like any number, the same ones for the same seed.
type dice struct{ seed uint32 }

// below is a number from 0 to n - 1.
func (d *dice) below(n int) int {
	d.seed = d.seed*1664525 + 1013904223
	return int(d.seed>>8) % n
}

// free is how many blocks hold nothing and are not marked.
func (d *Drive) free() int {
	n := d.blocks.Count(yard.Free)
	for _, b := range d.blocks.List(yard.Full) {
		if d.holds(b) == 0 {
			n++
		}
	}
	return n
}

// roomy tells that as many blocks are free as are to be: those that may yet be lost, and the reserve.
func roomy(t *testing.T, d *Drive) {
	t.Helper()
	if wanted := d.spares - d.Lost() + reserve; !d.ReadOnly() && d.free() < wanted {
		t.Fatalf("%d blocks are free, want %d", d.free(), wanted)
	}
}

// blanks are how many of the blocks that hold nothing, and are not marked, are blank.
func blanks(t *testing.T, c *chip.Chip, d *Drive) int {
	t.Helper()
	n := 0
	for b := range d.geo.Blocks {
		state := d.blocks.State(b)
		if (state == yard.Free || state == yard.Full) && d.holds(b) == 0 && used(t, c, b) == 0 {
			n++
		}
	}
	return n
}

// used is how far a block is written, asked of a copy of the chip till its power stays.
func used(t *testing.T, c *chip.Chip, block int) int {
	t.Helper()
	x, tables := c.Copy(), field.Make()
	for range 300 {
		x.Power()
		if s, err := scan.Block(tables, x, block); err == api.OK {
			return s.Used
		}
	}
	t.Fatal("the power does not stay")
	return 0
}

// mounted is a drive of that chip, mounted till the power stays.
func mounted(t *testing.T, c *chip.Chip, spares int) *Drive {
	t.Helper()
	for range 300 {
		c.Power()
		d, err := Mount(c, spares)
		if err == api.OK {
			return d
		}
	}
	t.Fatal("the power does not stay")
	return nil
}

// cutsAndFailures are fates so near to one another that hardly a command comes to its end, or farther apart.
func cutsAndFailures(g api.Geo, spares int, d *dice) []api.Fate {
	var l []api.Fate
	mount := g.Blocks * (1 + g.Pages)
	for at := d.below(40); len(l) < 200; at += 1 + mount + d.below(12+d.below(2)*mount) {
		l = append(l, api.Fate{At: at, Do: api.Cut, Keep: d.below(2) * d.below(geo.Cells(g)+1)})
		if d.below(2) == 0 {
			l[len(l)-1].Keep = d.below(g.Pages + 1)
		}
	}
	for range spares {
		l[d.below(100)].Do = api.Fail
	}
	return l
}

// As many blocks are free as are to be, behind each command and each Mount, wherever the power goes, while no more are lost than are spared; and once a drive has written, as many are blank.
func TestThereIsRoom(t *testing.T) {
	t.Parallel()
	for _, g := range []api.Geo{{Blocks: 4, Pages: 4, W: 1, K: 9}, {Blocks: 6, Pages: 5, W: 1, K: 9}, {Blocks: 8, Pages: 3, W: 1, K: 9}, {Blocks: 9, Pages: 8, W: 1, K: 9}} {
		for seed := range uint32(30) {
			dice := &dice{seed}
			spares := dice.below(g.Blocks - 3)
			c, err := chip.New(g, nil, cutsAndFailures(g, spares, dice))
			if err != api.OK {
				t.Fatal(err)
			}
			d, err := Format(c, spares)
			for k := range 150 {
				if err == api.ErrPower {
					d = mounted(t, c, spares)
				} else if err != api.OK {
					t.Fatal(err)
				}
				roomy(t, d)
				if wanted := spares - d.Lost() + reserve; k%3 == 0 && d.front.Left() > 0 && blanks(t, c, d) < wanted {
					t.Fatalf("%d blocks are blank, want %d", blanks(t, c, d), wanted)
				}
				lpn := dice.below(d.Lpns())
				if err = d.Trim(lpn); dice.below(5) > 0 {
					err = d.Write(lpn, make([]byte, geo.Size(g)))
				}
			}
			if d.ReadOnly() {
				t.Fatal("it is ReadOnly")
			}
		}
	}
}

// standing is a drive of ten blocks of four pages: the first of them are Full and hold so many, the last one is the frontier.
func standing(t *testing.T, spares int, holds []int) *Drive {
	t.Helper()
	c, err := chip.New(api.Geo{Blocks: 10, Pages: 4, W: 1, K: 9}, nil, nil)
	if err != api.OK {
		t.Fatal(err)
	}
	d, err := Format(c, spares)
	if err != api.OK {
		t.Fatal(err)
	}
	d.lies, _ = lmap.New(40, 40) // there may be more host pages than the drive would have
	lpn := 0
	for b, n := range holds {
		d.blocks.Turn(b, yard.Open)
		d.blocks.Turn(b, yard.Full)
		for page := range n {
			d.lies.Put(lpn, b*4+page)
			lpn++
		}
	}
	d.blocks.Turn(9, yard.Open)
	d.front.Open(9, 0)
	return d
}

// As few blocks are emptied as are wanted, those that hold least first, and no more than go in ahead of one page: but the one that failed in any case.
func TestSources(t *testing.T) {
	for _, x := range []struct {
		spares, sick int
		holds        []int
		want         []int
	}{
		{2, none, []int{3, 1, 1, 2, 3}, nil},                     // four are free
		{2, none, []int{3, 1, 1, 2, 3, 0}, nil},                  // one of them is not wiped
		{2, none, []int{3, 2, 1, 1, 3, 2}, []int{2}},             // three
		{2, none, []int{3, 2, 1, 1, 3, 2, 1}, []int{2, 3}},       // two
		{2, none, []int{3, 1, 1, 1, 3, 2, 1, 1}, []int{1, 2, 3}}, // one
		{4, none, []int{4, 4, 1, 4}, []int{2}},                   // six are wanted, and five free
		{4, none, []int{4, 4, 2, 2, 4}, []int{2}},                // the second one does not go in
		{4, none, []int{4, 4, 4, 4}, nil},                        // nor does this
		{4, none, []int{3}, nil},
		{2, 0, []int{3, 2, 1, 1, 3, 2}, []int{0}},    // it is lost as well
		{2, 0, []int{3, 2, 1, 1, 3, 2, 1}, []int{0}}, // but there is no place
		{2, 0, []int{2, 2, 1, 1, 3, 2}, []int{0}},
		{2, 0, []int{2, 2, 1, 1, 3, 2, 1}, []int{0, 2}},
		{2, 1, []int{3, 1, 2, 2, 3, 2, 1, 3}, []int{1, 6}},
	} {
		d := standing(t, x.spares, x.holds)
		if x.sick != none {
			d.sick = x.sick
			d.blocks = reopened(d.blocks, x.sick)
		}
		if got := d.sources(); !slices.Equal(got, x.want) {
			t.Errorf("%+v: sources are %v", x, got)
		}
	}
}

// reopened is a yard as y, in which a block that is Full is Open.
func reopened(y *yard.Yard, block int) *yard.Yard {
	z := yard.New(10)
	for b := range 10 {
		if y.State(b) != yard.Free {
			z.Turn(b, yard.Open)
		}
		if y.State(b) == yard.Full && b != block {
			z.Turn(b, yard.Full)
		}
	}
	return z
}

// The block that is given up is the one with the most: pages were being moved to it from several, and what was moved last lies elsewhere in part.
func TestSpare(t *testing.T) {
	for _, x := range []struct {
		held  [][]int
		times []int
		want  int
	}{
		{[][]int{nil, nil}, nil, none},
		{[][]int{{0}, {1, 2}}, []int{1, 1, 1}, none},
		{[][]int{{0, 1}, {0}, nil}, []int{2, 1}, 1},
		{[][]int{{0, 1}, {2, 3, 4}, {0, 1, 2}}, []int{2, 2, 2, 1, 1}, 2},
		{[][]int{{0, 1, 2}, {2, 3, 4}, {0, 1}}, []int{2, 2, 2, 1, 1}, 0},
		{[][]int{nil, {3, 4}, {4, 3}}, []int{0, 0, 0, 2, 2}, 1},
	} {
		if got := spare(x.held, x.times); got != x.want {
			t.Errorf("spare(%v, %v) = %d, want %d", x.held, x.times, got, x.want)
		}
	}
}
