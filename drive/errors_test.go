package drive_test

import (
	"slices"
	"testing"

	"blackboard/api"
	"blackboard/chip"
	"blackboard/drive"
)

// P20.2: the errors of each command, and their order; R7.

func TestNilDrive(t *testing.T) {
	t.Parallel()
	for _, d := range []*drive.Drive{nil, {}} {
		for _, lpn := range []int{-1, 0, 1} {
			is(t, "Write", d.Write(lpn, nil), api.ErrArg)
			is(t, "Trim", d.Trim(lpn), api.ErrArg)
			data, err := d.Read(lpn)
			if data != nil || err != api.ErrArg {
				t.Errorf("Read = %v, %v", data, err)
			}
		}
		is(t, "Flush", d.Flush(), api.ErrArg)
		is(t, "Tick", d.Tick(), api.ErrArg)
		is(t, "ReadOnly", d.ReadOnly(), false)
		is(t, "Lost", d.Lost(), 0)
		is(t, "Lpns", d.Lpns(), 0)
	}
}

// state is a drive, and the errors of which it answers the first one that is no error of the number or the size.
type state struct {
	what           string
	c              *chip.Chip
	d              *drive.Drive
	readOnly, dark bool
}

// states are drives of one plan: at their best, that are ReadOnly, without power, and both; the power may be back.
func states(t *testing.T, p plan) []state {
	t.Helper()
	var l []state
	for _, readOnly := range []bool{false, true} {
		for _, dark := range []bool{false, true} {
			for _, back := range []bool{false, true} {
				if back && !dark {
					continue
				}
				var bad []int
				for b := range p.spares + 1 {
					if readOnly {
						bad = append(bad, b)
					}
				}
				c, _ := formats(t, p, bad)
				c, d := formats(t, p, bad, api.Fate{At: c.Ops(), Do: cut})
				if dark {
					is(t, "Flush as the power goes", d.Flush(), api.ErrPower)
				}
				if back {
					c.Power()
				}
				if !dark {
					c, d = formats(t, p, bad)
				}
				l = append(l, state{"drive", c, d, readOnly, dark})
			}
		}
	}
	return l
}

// first is the first error that holds.
func first(l ...api.Errno) api.Errno {
	for _, err := range l {
		if err != api.OK {
			return err
		}
	}
	return api.OK
}

// when is an error that may hold.
func when(holds bool, err api.Errno) api.Errno {
	if holds {
		return err
	}
	return api.OK
}

func TestErrorsInOrder(t *testing.T) {
	t.Parallel()
	for _, p := range plans() {
		n, size := lpnsOf(p), sizeOf(p.g)
		numbers := append([]int{0, n - 1, n, n + 1}, far...)
		for _, s := range states(t, p) {
			readOnly, dark := when(s.readOnly, api.ErrReadOnly), when(s.dark, api.ErrPower)
			for _, lpn := range numbers {
				beyond := when(lpn < 0 || lpn >= n, api.ErrRange)
				for _, bytes := range []int{0, size - 1, size, size + 1, 2 * size} {
					want := first(beyond, when(bytes != size, api.ErrSize), readOnly, dark)
					is(t, "Write", s.d.Write(lpn, make([]byte, bytes)), want)
				}
				is(t, "Write of nil", s.d.Write(lpn, nil), first(beyond, api.ErrSize))
				is(t, "Trim", s.d.Trim(lpn), first(beyond, readOnly, dark))
				data, err := s.d.Read(lpn)
				is(t, "Read", err, first(beyond, dark))
				is(t, "Read's bytes", len(data), map[bool]int{true: size}[err == api.OK])
			}
			is(t, "Flush", s.d.Flush(), dark)
			is(t, "Tick", s.d.Tick(), dark)
			is(t, "ReadOnly", s.d.ReadOnly(), s.readOnly)
			is(t, "Lpns", s.d.Lpns(), n)
			is(t, "operations that were refused", s.c.Refused(), 0)
		}
	}
}

// What is refused changes nothing: neither on the device, nor of the drive, nor does it make an operation.
func TestWhatIsRefusedChangesNothing(t *testing.T) {
	t.Parallel()
	for i, p := range plans() {
		r := formatted(t, p, nil)
		r.plays(script(p, 60, uint32(i)))
		before, ops := asked(t, r.c, liesOf), r.c.Ops()
		for _, lpn := range append([]int{lpnsOf(p)}, far...) {
			is(t, "Write", r.d.Write(lpn, make([]byte, sizeOf(p.g))), api.ErrRange)
			is(t, "Trim", r.d.Trim(lpn), api.ErrRange)
			data, err := r.d.Read(lpn)
			if data != nil || err != api.ErrRange {
				t.Errorf("Read(%d) = %v, %v", lpn, data, err)
			}
		}
		for lpn := range lpnsOf(p) {
			is(t, "Write", r.d.Write(lpn, make([]byte, sizeOf(p.g)+1)), api.ErrSize)
			is(t, "Write", r.d.Write(lpn, make([]byte, sizeOf(p.g)-1)), api.ErrSize)
		}
		is(t, "operations", r.c.Ops(), ops)
		is(t, "all is as it was", asked(t, r.c, liesOf).same(before), true)
		r.reads()
	}
}

// The power goes in each command, at its first operation: all commands answer it from then on.
func TestPowerGoesInEachCommand(t *testing.T) {
	t.Parallel()
	p := plan{tall, 0}
	start := []event{{do: write, lpn: 0, seed: 1}, {do: write, lpn: 1, seed: 2}, {do: trim, lpn: 1}}
	at := opsOf(t, p, start)
	for do := write; do <= tick; do++ {
		for lpn := range 3 { // with something, trimmed, and never written
			r := formatted(t, p, nil, api.Fate{At: at, Do: cut})
			r.plays(start)
			is(t, event{do: do, lpn: lpn}.String(), r.do(event{do: do, lpn: lpn, seed: 7}), api.ErrPower)
			r.reads()
		}
	}
}

// The power is gone ahead of a command: whichever it is, it hears of it.
func TestPowerIsGone(t *testing.T) {
	t.Parallel()
	p := plan{tall, 0}
	start := []event{{do: write, lpn: 0, seed: 1}, {do: write, lpn: 1, seed: 2}, {do: trim, lpn: 1}}
	at := opsOf(t, p, start)
	for do := write; do <= tick; do++ {
		for lpn := range 3 {
			r := formatted(t, p, nil, api.Fate{At: at, Do: cut})
			r.plays(start)
			if _, err := r.c.Sense(0, 0); err != api.ErrPower {
				t.Fatal(err)
			}
			_, err := r.command(event{do: do, lpn: lpn, seed: 7})
			is(t, event{do: do, lpn: lpn}.String(), err, api.ErrPower)
			r.c.Power()
			is(t, "Flush behind it", r.d.Flush(), api.ErrPower)
			r.mount()
			r.reads()
		}
	}
}

func TestBound(t *testing.T) {
	t.Parallel()
	for _, p := range plans() {
		for _, n := range []int{0, 1, 2, 3, 63, 64, 1 << 20} {
			is(t, "Bound", drive.Bound(p.g, n), boundOf(p.g, n))
		}
	}
	is(t, "Bound", drive.Bound(api.Geo{Blocks: 8, Pages: 4, W: 1, K: 9}, 0), 128)
	is(t, "Bound", drive.Bound(api.Geo{Blocks: 8, Pages: 32, W: 1, K: 9}, 2), 1728)
	for _, n := range far {
		drive.Bound(api.Geo{Blocks: n, Pages: n}, n)
		drive.Bound(flat, n)
	}
}

// The same calls bring the same answers.
func TestTheSameAgain(t *testing.T) {
	t.Parallel()
	l := plans()
	several(t, len(l), func(t *testing.T, i int) {
		p := l[i]
		var twice [2]*rig
		var answers [2][]api.Errno
		for k := range twice {
			d := &dice{uint32(i)}
			fates := everySo(p.g, d, func() int { return d.below(cellsOf(p.g)) })
			for j := range fates {
				if j%9 == 0 {
					fates[j].Do = fail
				}
			}
			r := formatted(t, p, nil, fates...)
			for _, e := range script(p, 150, uint32(i)) {
				answers[k] = append(answers[k], r.do(e), api.Errno(r.c.Ops()))
			}
			twice[k] = r
		}
		is(t, "the same answers", slices.Equal(answers[0], answers[1]), true)
		a, b := asked(t, twice[0].c, liesOf), asked(t, twice[1].c, liesOf)
		is(t, "the same device", a.same(b), true)
	})
}
