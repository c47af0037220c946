package scan_test

import (
	"slices"
	"testing"

	"blackboard/api"
	"blackboard/chip"
	"blackboard/field"
	"blackboard/scan"
)

// P18.1: Block, of what stands whole.

// The example.
func TestBlankBlocks(t *testing.T) {
	for _, g := range append([]api.Geo{widest}, sizes...) {
		c := made(t, g, nil)
		for b := range g.Blocks {
			sees(t, c, b, scan.Sight{})
		}
	}
}

// filled are blocks of which each has another number of pages, from none to all; and what they show.
func filled(t *testing.T, g api.Geo, seed uint32) (*chip.Chip, []scan.Sight) {
	t.Helper()
	c, d := made(t, g, nil), &dice{seed}
	l := make([]scan.Sight, g.Blocks)
	for b := range l {
		l[b].Used = b % (g.Pages + 1)
		for p := range l[b].Used {
			m := d.mark()
			wrote(t, c, b, p, m)
			l[b].Found = append(l[b].Found, scan.Found{Page: b*g.Pages + p, Mark: m})
		}
	}
	return c, l
}

func TestBlocksThatAreWritten(t *testing.T) {
	for i, g := range append([]api.Geo{widest}, sizes...) {
		c, l := filled(t, g, uint32(i))
		for b, want := range l {
			sees(t, c, b, want)
		}
	}
}

// Each part of a head is told as it was written: the least, the greatest, each bit alone, and what no host page is.
func TestFoundTellsTheMark(t *testing.T) {
	l := []api.Mark{{Kind: 1}, {Kind: api.Trim, Lpn: 7, Seq: 7}, {Kind: 1023, Lpn: lpns - 1, Seq: seqs - 1}}
	for bit := range 40 {
		l = append(l, api.Mark{Kind: 1 << (bit % 10)}, api.Mark{Kind: 1, Lpn: 1 << (bit % 20)}, api.Mark{Kind: 1, Seq: 1 << bit})
	}
	c := made(t, small, nil)
	for _, m := range l {
		wrote(t, c, 2, 0, m)
		sees(t, c, 2, scan.Sight{Found: []scan.Found{{Page: 8, Mark: m}}, Used: 1})
		erased(t, c, 2, api.OK)
	}
}

// Pages are told as they stand, one after another: also where two say the same, or the number in the order of writing falls.
func TestFoundIsByPage(t *testing.T) {
	c := made(t, small, nil)
	l := []api.Mark{{Kind: 1, Lpn: 9, Seq: 5}, {Kind: 1, Lpn: 3, Seq: 4}, {Kind: 1, Lpn: 9, Seq: 5}, {Kind: 2, Lpn: 1, Seq: 3}}
	want := scan.Sight{Used: 4}
	for p, m := range l {
		wrote(t, c, 4, p, m)
		want.Found = append(want.Found, scan.Found{Page: 16 + p, Mark: m})
	}
	sees(t, c, 4, want)
}

// P18.1: blocks that were wiped, in part and whole.

func TestBlocksThatWereWiped(t *testing.T) {
	for i, g := range sizes {
		c, l := filled(t, g, uint32(i+50))
		for b := range l {
			erased(t, c, b, api.OK)
			sees(t, c, b, scan.Sight{})
		}
		m := api.Mark{Kind: 1, Lpn: 2, Seq: 3}
		wrote(t, c, 3, 0, m)
		sees(t, c, 3, scan.Sight{Found: []scan.Found{{Page: 3 * g.Pages, Mark: m}}, Used: 1})
		sees(t, c, 2, scan.Sight{})
	}
}

// What an Erase leaves that was cut off stands behind pages that are blank.
func TestBlocksThatWereWipedInPart(t *testing.T) {
	d := &dice{3}
	for _, g := range sizes {
		for used := range g.Pages + 1 {
			for keep := range g.Pages + 2 {
				c := made(t, g, nil, api.Fate{At: used, Do: cut, Keep: keep})
				var want scan.Sight
				for p := range used {
					m := d.mark()
					wrote(t, c, 1, p, m)
					if p >= keep {
						want.Found = append(want.Found, scan.Found{Page: g.Pages + p, Mark: m})
						want.Used = used
					}
				}
				erased(t, c, 1, api.ErrPower)
				c.Power()
				sees(t, c, 1, want)
			}
		}
	}
}

// P18.1: bad blocks are read as others are.

func TestBadBlocks(t *testing.T) {
	c := made(t, small, []int{0, 4}, api.Fate{At: 7, Do: fail})
	sees(t, c, 0, scan.Sight{}) // four operations
	var want [2]scan.Sight
	for i := range want {
		m := api.Mark{Kind: 1, Lpn: 5 + i, Seq: 6 + i}
		wrote(t, c, 1+i, 0, m)
		want[i] = scan.Sight{Found: []scan.Found{{Page: 4 + 4*i, Mark: m}}, Used: 1}
	}
	if err := c.Mark(1); err != api.OK {
		t.Fatalf("Mark(1) = %v", err)
	}
	erased(t, c, 2, api.ErrErase)
	if !c.Broken(2) {
		t.Fatal("block 2 is not broken")
	}
	erased(t, c, 1, api.ErrMarked)
	sees(t, c, 1, want[0])
	sees(t, c, 2, want[1])
	sees(t, c, 4, scan.Sight{})
	sees(t, c, 3, scan.Sight{})
}

// P18.1: blocks that there are none of, and devices.

func TestBlocksThatThereAreNoneOf(t *testing.T) {
	for i, g := range sizes {
		c, l := filled(t, g, uint32(i+90))
		for _, b := range append([]int{g.Blocks, g.Blocks + 1, 2 * g.Blocks, g.Blocks * g.Pages}, far...) {
			if b >= 0 && b < g.Blocks {
				continue
			}
			refused := c.Refused()
			blind(t, c, b, api.ErrArg, 1)
			if n := c.Refused() - refused; n != 1 {
				t.Errorf("Block(%d) had %d operations refused, want the first one", b, n)
			}
		}
		for b, want := range l {
			sees(t, c, b, want)
		}
	}
}

func TestNilChip(t *testing.T) {
	for _, b := range append([]int{0, 1, 2, 3}, far...) {
		blind(t, nil, b, api.ErrArg, 0)
	}
}

// One that nobody made has no blocks.
func TestZeroChip(t *testing.T) {
	for _, b := range append([]int{0, 1, 2, 3}, far...) {
		blind(t, new(chip.Chip), b, api.ErrArg, 1)
	}
}

// Tables that nobody made answer as those of Make.
func TestTablesThatNobodyMade(t *testing.T) {
	c, l := filled(t, small, 7)
	wrong(t, c, 4, 1, 3)
	l[4].Found[1].Wrong = 1
	for cell := range most + 1 {
		nought(t, c, 4, 2, 2*cell)
	}
	l[4].Found, l[4].Torn = slices.Delete(l[4].Found, 2, 3), 1
	for b, want := range l {
		got, err := scan.Block(field.Tables{}, c, b)
		if !same(got, want) || err != api.OK {
			t.Errorf("Block(Tables{}, %d) = %+v, %v, want %+v", b, got, err, want)
		}
		sees(t, c, b, want)
	}
	if got, err := scan.Block(field.Tables{}, c, 5); !same(got, scan.Sight{}) || err != api.ErrArg {
		t.Errorf("Block(Tables{}, 5) = %+v, %v", got, err)
	}
	if got, err := scan.Block(field.Tables{}, nil, 0); !same(got, scan.Sight{}) || err != api.ErrArg {
		t.Errorf("Block(Tables{}, nil, 0) = %+v, %v", got, err)
	}
}

// R3, R4, R5: what is read stays as it is, and is answered the same again, in new memory.

func TestBlockChangesNothing(t *testing.T) {
	for i, g := range sizes {
		c, l := filled(t, g, uint32(i+20))
		wrong(t, c, 1, 0, 1)
		l[1].Found[0].Wrong = 1
		before := c.Copy()
		for range 3 {
			for b, want := range l {
				sees(t, c, b, want)
			}
			blind(t, c, -1, api.ErrArg, 1)
		}
		for b := range g.Blocks {
			for p := range g.Pages {
				if !slices.Equal(points(t, c, b, p), points(t, before, b, p)) {
					t.Errorf("page %d of block %d is another one", p, b)
				}
			}
			if on, err := c.Marked(b); on || err != api.OK || c.Erases(b) != 0 || c.Broken(b) {
				t.Errorf("block %d: %v, %v, %d, %v", b, on, err, c.Erases(b), c.Broken(b))
			}
		}
		if c.Worst() != before.Worst() {
			t.Errorf("Worst() = %d, want %d", c.Worst(), before.Worst())
		}
	}
}

func TestBlockAnswersNewMemory(t *testing.T) {
	c, l := filled(t, small, 8)
	first, err := scan.Block(tables, c, 4)
	if err != api.OK || !same(first, l[4]) {
		t.Fatalf("Block(4) = %+v, %v", first, err)
	}
	second, _ := scan.Block(tables, c, 4)
	for i := range whole(first.Found) {
		whole(first.Found)[i] = scan.Found{Page: -1, Mark: api.Mark{Kind: -1, Lpn: -1, Seq: -1}, Wrong: -1}
	}
	if !same(second, l[4]) {
		t.Errorf("the second answer became %+v, want %+v", second, l[4])
	}
	sees(t, c, 4, l[4])
}

// Devices know nothing of one another.
func TestTwoChips(t *testing.T) {
	a, la := filled(t, small, 30)
	b, lb := filled(t, small, 31)
	for i := range la {
		sees(t, a, i, la[i])
		sees(t, b, i, lb[i])
	}
	d := a.Copy()
	for i := range la {
		erased(t, a, i, api.OK)
		sees(t, a, i, scan.Sight{})
		sees(t, d, i, la[i])
	}
}
