package drive

import (
	"blackboard/api"
	"blackboard/frame"
	"blackboard/geo"
	"blackboard/yard"
)

// The lower bits of a page's Seq tell how often it was moved since it was written, the upper ones which version it is: so the page that was written last has the greatest Seq, and those of one version say the same.
const (
	movedBits = 8
	movedMost = 1<<movedBits - 1
)

// versionOf is the version of a page with that Seq.
func versionOf(seq int) int {
	return seq >> movedBits
}

// movedSeq is the Seq of a page that is moved once more. Moved very often it stays as it is: of pages alike any will do.
func movedSeq(seq int) int {
	if seq&movedMost == movedMost {
		return seq
	}
	return seq + 1
}

// told takes note of the power's going, and hands the chip's error on.
func (d *Drive) told(err api.Errno) api.Errno {
	if err == api.ErrPower {
		d.dark = true
	}
	return err
}

// ask makes an operation that changes nothing, just to hear whether there is power.
func (d *Drive) ask() api.Errno {
	_, err := d.chip.Marked(0)
	return d.told(err)
}

// sense is the points of the page of that number.
func (d *Drive) sense(page int) ([]complex128, api.Errno) {
	block, at, _ := geo.Place(d.geo, page)
	points, err := d.chip.Sense(block, at)
	return points, d.told(err)
}

// says is what a page with these points says of a host page: false where it can't be read any more, or speaks of another.
func (d *Drive) says(lpn int, points []complex128) (api.Mark, []byte, bool) {
	m, data, _, err := frame.Read(d.tables, d.geo, points)
	if err != api.OK || m.Lpn != lpn || m.Kind != d.kinds[lpn] {
		return api.Mark{}, nil, false
	}
	return m, data, true
}

// read is what the page of that number says of a host page.
func (d *Drive) read(lpn, page int) (api.Mark, []byte, api.Errno) {
	points, err := d.sense(page)
	if err != api.OK {
		return api.Mark{}, nil, err
	}
	m, data, ok := d.says(lpn, points)
	if !ok {
		return api.Mark{}, nil, api.ErrData
	}
	return m, data, api.OK
}

// program puts the symbols s on the next page of the frontier, which is open, and is the number of that page.
func (d *Drive) program(s []uint16) (int, api.Errno) {
	block, at, _ := d.front.Take()
	if err := d.chip.Program(block, at, s); err != api.OK {
		return 0, d.told(err)
	}
	page, _ := geo.Number(d.geo, block, at)
	return page, api.OK
}

// wipe makes a block Free: or Bad, if it can't be wiped.
func (d *Drive) wipe(b int) api.Errno {
	err := d.chip.Erase(b)
	switch err {
	case api.OK:
		d.blocks.Erased(b)
		d.blocks.Turn(b, yard.Free)
		d.blank[b] = false // what it looked like when it was mounted is over
		return api.OK
	case api.ErrPower:
		return d.told(err)
	}
	return d.mark(b)
}

// mark makes a block that holds nothing Bad.
func (d *Drive) mark(b int) api.Errno {
	if err := d.chip.Mark(b); err != api.OK {
		return d.told(err)
	}
	d.blocks.Turn(b, yard.Bad)
	return api.OK
}

// holds is how many pages of a block say what host pages are.
func (d *Drive) holds(b int) int {
	return d.lies.Count(b*d.geo.Pages, (b+1)*d.geo.Pages)
}
