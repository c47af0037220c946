package drive

import (
	"slices"

	"blackboard/api"
	"blackboard/chip"
	"blackboard/geo"
	"blackboard/scan"
	"blackboard/yard"
)

// Mount is a drive of that chip which has what lies there.
func Mount(c *chip.Chip, spares int) (*Drive, api.Errno) {
	d, err := made(c, spares)
	if err != api.OK {
		return nil, err
	}
	var found []scan.Found
	for b := range d.geo.Blocks {
		l, err := d.look(b)
		if err != api.OK {
			return nil, err
		}
		found = append(found, l...)
	}
	d.version = versionOf(scan.Greatest(found)) + 1
	d.adopt(d.current(found))
	return d, api.OK
}

// look is what can be read in a block. Of one that is marked nothing is asked: what it held lies elsewhere. The others are wiped ahead of being written, whatever they look like.
func (d *Drive) look(b int) ([]scan.Found, api.Errno) {
	marked, err := d.chip.Marked(b)
	if err != api.OK {
		return nil, err
	}
	if marked {
		d.blocks.Turn(b, yard.Bad)
		return nil, api.OK
	}
	d.blocks.Turn(b, yard.Open)
	d.blocks.Turn(b, yard.Full)
	sight, err := scan.Block(d.tables, d.chip, b)
	d.blank[b] = sight.Used == 0
	return sight.Found, err
}

// current is the pages, of those that were found, that say what host pages are now. Of one host page there are several if it was just being moved.
func (d *Drive) current(found []scan.Found) []scan.Found {
	found = slices.DeleteFunc(found, func(f scan.Found) bool {
		return !d.has(f.Mark.Lpn) || f.Mark.Kind != api.Data && f.Mark.Kind != api.Trim
	})
	versions := make([]int, len(d.kinds))
	for _, f := range scan.Latest(found) {
		versions[f.Mark.Lpn] = versionOf(f.Mark.Seq)
		d.kinds[f.Mark.Lpn] = f.Mark.Kind
	}
	return slices.DeleteFunc(found, func(f scan.Found) bool {
		return versionOf(f.Mark.Seq) != versions[f.Mark.Lpn]
	})
}

// adopt lets host pages lie where they were found: what lies twice is left to as few blocks as may be, so that as many are free as there were.
func (d *Drive) adopt(found []scan.Found) {
	held := make([][]int, d.geo.Blocks)
	times := make([]int, len(d.kinds))
	for _, f := range found {
		b, _, _ := geo.Place(d.geo, f.Page)
		if !slices.Contains(held[b], f.Mark.Lpn) {
			held[b] = append(held[b], f.Mark.Lpn)
			times[f.Mark.Lpn]++
		}
	}
	for b := spare(held, times); b != none; b = spare(held, times) {
		for _, lpn := range held[b] {
			times[lpn]--
		}
		held[b] = nil
	}
	for _, f := range found {
		b, _, _ := geo.Place(d.geo, f.Page)
		if _, lies := d.lies.Get(f.Mark.Lpn); !lies && held[b] != nil {
			d.lies.Put(f.Mark.Lpn, f.Page)
		}
	}
}

// spare is the block that holds most, of those that hold nothing but what others hold, too: none, where there is no such block.
func spare(held [][]int, times []int) int {
	most := none
	for b, lpns := range held {
		once := slices.ContainsFunc(lpns, func(lpn int) bool { return times[lpn] == 1 })
		if len(lpns) == 0 || once {
			continue
		}
		if most == none || len(lpns) > len(held[most]) {
			most = b
		}
	}
	return most
}
