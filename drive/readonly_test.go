package drive_test

import (
	"testing"

	"blackboard/api"
)

// P20.5: more blocks are lost than are spared.

// shuts plays a script on a device of which more may be lost than is spared: what it holds is there always, also when it is mounted again.
func shuts(t *testing.T, p plan, l []event, fates ...api.Fate) *rig {
	t.Helper()
	r := formatted(t, p, nil, fates...)
	shut := 0
	for _, e := range l {
		r.do(e)
		if r.d.ReadOnly() {
			shut++
		}
		if shut == 1 { // just now: nothing of what was in hand is there
			r.reads()
			r.mounts()
		}
	}
	r.reads()
	was := r.d.ReadOnly()
	r.mount()
	is(t, "ReadOnly behind a Mount", r.d.ReadOnly(), was)
	r.keeps()
	r.reads()
	return r
}

// One more block is lost than is spared, at any operation.
func TestOneMoreIsLost(t *testing.T) {
	t.Parallel()
	for _, p := range []plan{{tall, 0}, {api.Geo{Blocks: 6, Pages: 3, W: 2, K: 5}, 1}} {
		l := script(p, 60, 7)
		to := opsOf(t, p, l)
		lost := make([]int, to)
		several(t, to, func(t *testing.T, at int) {
			for n := range 4 {
				for step := 1; step <= 3; step++ {
					r := shuts(t, p, l, fails(at, step, p.spares+1+n, 5*n)...)
					lost[at] = max(lost[at], r.d.Lost())
				}
			}
		})
		t.Cleanup(func() {
			shut := 0
			for _, n := range lost {
				if n > p.spares {
					shut++
				}
			}
			if shut < 10 {
				t.Errorf("ReadOnly at %d operations of %d", shut, to)
			}
		})
	}
}

// From one operation on all fail: nothing is written any more, and all is there.
func TestAllFail(t *testing.T) {
	t.Parallel()
	for _, p := range plans() {
		l := script(p, 80, 9)
		to := opsOf(t, p, l)
		for at := 2 * p.g.Blocks; at < to; at += 1 + to/20 {
			r := shuts(t, p, l, fails(at, 1, 250, at%9)...)
			if !r.d.ReadOnly() && at < to/2 {
				t.Errorf("%+v is not ReadOnly", p)
			}
		}
		// Just behind a Mount, where all is to be wiped first.
		l = append(l, event{do: mount}, event{do: write, lpn: 0, seed: 1})
		to = opsOf(t, p, l[:len(l)-1])
		r := shuts(t, p, l, fails(to, 1, 250, 5)...)
		is(t, "ReadOnly", r.d.ReadOnly(), true)
	}
}

// More are lost than are spared, and the power goes again and again.
func TestReadOnlyAndLossesOfPower(t *testing.T) {
	t.Parallel()
	l := plans()
	several(t, 10*len(l), func(t *testing.T, i int) {
		p, d := l[i%len(l)], &dice{uint32(i)}
		fates := everySo(p.g, d, func() int { return d.below(cellsOf(p.g) + 1) })
		for range p.spares + 4 {
			fates[d.below(50)].Do = fail
		}
		shuts(t, p, script(p, 150, uint32(i)), fates...)
	})
}

// ReadOnly from the beginning on: commands answer so, and nothing is written.
func TestReadOnlyFromTheBeginning(t *testing.T) {
	t.Parallel()
	for _, p := range plans() {
		var bad []int
		for b := range p.spares + 1 {
			bad = append(bad, b)
		}
		r := formatted(t, p, bad)
		is(t, "ReadOnly", r.d.ReadOnly(), true)
		before := asked(t, r.c, liesOf)
		for _, e := range script(p, 100, 1) {
			want := api.OK
			if e.do == write || e.do == trim {
				want = api.ErrReadOnly
			}
			is(t, e.String(), r.do(e), want)
		}
		is(t, "nothing is written", asked(t, r.c, liesOf).same(before), true)
		r.mounts()
	}
}
