package drive

import (
	"blackboard/api"
	"blackboard/frame"
	"blackboard/wear"
	"blackboard/yard"
)

// reserve is how many blocks are to be free beside the spares that are left: one to move pages to, for the last of them may fail, too, and one more.
const reserve = 2

// lost is the page of a host page that could not be moved.
const lost = -1

// move is what a host page lies on now.
type move struct{ lpn, page int }

// put writes what a host page is to be from now on, on the next page that can be programmed.
func (d *Drive) put(kind, lpn int, data []byte) api.Errno {
	s, err := frame.Make(d.tables, d.geo, api.Mark{Kind: kind, Lpn: lpn, Seq: d.version << movedBits}, data)
	if err != api.OK {
		return api.ErrFull // there is no number left for it
	}
next:
	if err := d.room(); err != api.OK {
		return err
	}
	block := d.front.Block()
	page, err := d.program(s)
	switch err {
	case api.OK:
	case api.ErrPower:
		return err
	default:
		if err := d.fail(block); err != api.OK {
			return err
		}
		goto next
	}
	d.lies.Put(lpn, page)
	d.kinds[lpn] = kind
	d.version++
	if d.front.Left() == 0 {
		d.blocks.Turn(block, yard.Full)
	}
	return api.OK
}

// fail gives up the block of the frontier, in which a program failed: what it holds is to be moved ahead of its being marked.
func (d *Drive) fail(block int) api.Errno {
	d.front.Shut()
	if d.holds(block) > 0 {
		d.sick = block
		return api.OK
	}
	return d.mark(block)
}

// room lets the frontier be open, with at least one page, and nothing be left in a block that failed.
func (d *Drive) room() api.Errno {
	for !d.ReadOnly() {
		if d.front.Left() > 0 {
			return api.OK
		}
		if err := d.refill(); err != api.OK {
			return err
		}
	}
	return api.ErrReadOnly
}

// refill opens the frontier in a free block, and empties others into it. It stays shut if that fails: then another block is to be tried.
func (d *Drive) refill() api.Errno {
	b, err := d.take()
	if err != api.OK {
		return err
	}
	d.blocks.Turn(b, yard.Open)
	d.front.Open(b, 0)
	from := d.sources()
	moves, err := d.copies(from)
	switch err {
	case api.OK:
	case api.ErrPower:
		return err
	default:
		return d.fail(b) // all that was copied lies where it lay
	}
	d.settle(moves)
	return d.release(from)
}

// take is a block that is wiped. All that holds nothing and is not blank is wiped ahead of it: so nothing lies twice when pages are moved next, and no elder pages come back in free blocks if later ones are beyond mending at a Mount.
func (d *Drive) take() (int, api.Errno) {
	for _, b := range d.blocks.List(yard.Full) {
		if d.holds(b) > 0 || d.blank[b] {
			continue
		}
		if err := d.wipe(b); err != api.OK {
			return 0, err
		}
	}
next:
	if d.ReadOnly() {
		return 0, api.ErrReadOnly
	}
	if b, ok := d.blocks.Pick(); ok {
		return b, api.OK
	}
	b, ok := d.empty()
	if !ok {
		return 0, api.ErrFull
	}
	if err := d.wipe(b); err != api.OK {
		return 0, err
	}
	goto next
}

// empty is the least worn of the written blocks that hold nothing.
func (d *Drive) empty() (int, bool) {
	holds, erases, full := d.written()
	for b := range full {
		full[b] = full[b] && holds[b] == 0
	}
	return wear.Pick(erases, full)
}

// written is of each block how many pages hold, how often it was wiped, and whether it is Full.
func (d *Drive) written() (holds, erases []int, full []bool) {
	for b := range d.geo.Blocks {
		holds = append(holds, d.holds(b))
		erases = append(erases, d.blocks.Erases(b))
		full = append(full, d.blocks.State(b) == yard.Full)
	}
	return holds, erases, full
}

// sources are the blocks that are emptied into the frontier: the one that failed, and while too few are free those that hold least, as many as go in ahead of one page more.
func (d *Drive) sources() []int {
	var from []int
	wanted := d.spares - d.Lost() + reserve
	left := d.front.Left() - 1
	if d.sick != none {
		from = append(from, d.sick)
		wanted-- // it is lost, too
		left -= d.holds(d.sick)
	}
	holds, erases, may := d.written()
	free := d.blocks.Count(yard.Free)
	for b := range may {
		if may[b] && holds[b] == 0 {
			may[b] = false
			free++
		}
	}
	for free < wanted {
		b, ok := wear.Victim(holds, erases, may)
		if !ok || holds[b] > left {
			break
		}
		may[b] = false
		free++
		left -= holds[b]
		from = append(from, b)
	}
	return from
}

// copies writes all that these blocks hold to the frontier. Till all of it lies there, it lies where it lay.
func (d *Drive) copies(from []int) ([]move, api.Errno) {
	var moves []move
	for _, b := range from {
		for page := b * d.geo.Pages; page < (b+1)*d.geo.Pages; page++ {
			lpn, ok := d.lies.Owner(page)
			if !ok {
				continue
			}
			to, err := d.again(lpn, page)
			if err != api.OK {
				return nil, err
			}
			moves = append(moves, move{lpn: lpn, page: to})
		}
	}
	return moves, api.OK
}

// again writes a host page to the frontier as its page says it: lost, where that can't be read any more.
func (d *Drive) again(lpn, page int) (int, api.Errno) {
	m, data, err := d.read(lpn, page)
	switch err {
	case api.OK:
	case api.ErrData:
		return lost, api.OK
	default:
		return 0, err
	}
	m.Seq = movedSeq(m.Seq)
	s, _ := frame.Make(d.tables, d.geo, m, data) // it was read: so it can be made
	return d.program(s)
}

// settle takes note of where host pages lie now.
func (d *Drive) settle(moves []move) {
	for _, m := range moves {
		if m.page != lost {
			d.lies.Put(m.lpn, m.page)
			continue
		}
		d.lies.Drop(m.lpn)
		if d.kinds[m.lpn] == api.Data {
			d.kinds[m.lpn] = gone
		}
	}
}

// release gives up blocks that hold nothing any more: the one that failed for good, the others to be written again.
func (d *Drive) release(from []int) api.Errno {
	for _, b := range from {
		give := d.wipe
		if b == d.sick {
			give = d.mark
			d.sick = none
		}
		if err := give(b); err != api.OK {
			return err
		}
	}
	return api.OK
}
