package drive_test

import (
	"slices"
	"testing"

	"blackboard/api"
)

// P20.4: programs and erases that fail; how much is done.

// standsFirm plays a script on a device of which no more blocks are lost than are spared: it is never ReadOnly, each Write answers OK, and each block with a page that a program left torn is marked.
func standsFirm(t *testing.T, p plan, bad []int, l []event, fates ...api.Fate) *rig {
	t.Helper()
	r := formatted(t, p, bad, fates...)
	for _, e := range l {
		before := r.c.Ops()
		if err := r.do(e); err != api.OK {
			t.Fatalf("%v: %v = %v", fates, e, err)
		}
		if r.failures(before, r.c.Ops()) == 0 {
			continue
		}
		for _, b := range torn(t, r.c) {
			if !slices.Contains(r.bad, b) {
				t.Fatalf("%v: %v left block %d torn, without its mark", fates, e, b)
			}
		}
	}
	is(t, "ReadOnly", r.d.ReadOnly(), false)
	r.reads()
	r.mounts()
	return r
}

// touched is the block that an operation programs or wipes: false, where it does neither. It is what is left of it when the power goes there that tells.
func touched(t *testing.T, p plan, l []event, at int, fates ...api.Fate) (int, bool) {
	t.Helper()
	var left [2]lies
	for i, keep := range []int{0, cellsOf(p.g)} {
		r := formatted(t, p, nil, append([]api.Fate{{At: at, Do: cut, Keep: keep}}, fates...)...)
		for _, e := range l {
			if _, err := r.command(e); err == api.ErrPower {
				break
			}
		}
		r.c.Power()
		left[i] = asked(t, r.c, liesOf)
	}
	cells := p.g.Pages * cellsOf(p.g)
	for i, x := range left[0].points {
		if x != left[1].points[i] {
			return i / cells, true
		}
	}
	return 0, false
}

// Each operation fails, with more and less of it done: the block that it was to program or to wipe is marked, and no other.
func TestEachOperationFails(t *testing.T) {
	t.Parallel()
	for _, p := range []plan{{flat, 1}, {api.Geo{Blocks: 6, Pages: 4, W: 2, K: 6}, 1}} {
		l := script(p, 60, 3)
		to := opsOf(t, p, l)
		lost := make([]int, to)
		from := formatted(t, p, nil).c.Ops()
		several(t, to, func(t *testing.T, at int) {
			b, ok := 0, false
			if at >= from {
				b, ok = touched(t, p, l, at)
			}
			for _, keep := range []int{0, 1, 4, cellsOf(p.g) - 9*p.g.W, cellsOf(p.g)} {
				r := standsFirm(t, p, nil, l, api.Fate{At: at, Do: fail, Keep: keep})
				lost[at] += r.d.Lost()
				if ok && !slices.Equal(r.bad, []int{b}) {
					t.Errorf("operation %d fails on block %d, and marked are %v", at, b, r.bad)
				}
			}
		})
		t.Cleanup(func() {
			if n := slices.Max(lost); n == 0 {
				t.Error("nothing ever failed")
			}
		})
	}
}

// A second operation fails at any place behind the first one: also while pages are moved because of that.
func TestTwoOperationsFail(t *testing.T) {
	t.Parallel()
	p := plan{api.Geo{Blocks: 6, Pages: 4, W: 1, K: 9}, 2}
	l := writes(p, 26, 4)
	to := opsOf(t, p, l)
	from := formatted(t, p, nil).c.Ops()
	several(t, to, func(t *testing.T, at int) {
		first := api.Fate{At: at, Do: fail, Keep: at % 20}
		for second := at + 1; second < to+20; second++ {
			r := standsFirm(t, p, nil, l, first, api.Fate{At: second, Do: fail, Keep: second % 20})
			if second > at+12 || second < from {
				continue // it is just behind the first one that pages are moved
			}
			if b, ok := touched(t, p, l, second, first); ok && !slices.Contains(r.bad, b) {
				t.Errorf("operation %d fails on block %d behind %d, and marked are %v", second, b, at, r.bad)
			}
		}
	})
}

// fails are n fates in which one operation behind another fails.
func fails(from, step, n, keep int) []api.Fate {
	var l []api.Fate
	for i := range n {
		l = append(l, api.Fate{At: from + i*step, Do: fail, Keep: keep})
	}
	return l
}

// As many fail as there are spares, one behind another, or each time the second operation: programs, and erases, and what is asked between them.
func TestSeveralFailOneBehindAnother(t *testing.T) {
	t.Parallel()
	for _, p := range []plan{{api.Geo{Blocks: 9, Pages: 3, W: 1, K: 9}, 4}, {api.Geo{Blocks: 9, Pages: 6, W: 1, K: 9}, 5}} {
		l := writes(p, 60, 5)
		to := opsOf(t, p, l)
		several(t, to, func(t *testing.T, at int) {
			for step := 1; step <= 3; step++ {
				standsFirm(t, p, nil, l, fails(at, step, p.spares, at%9)...)
			}
		})
	}
}

// Some blocks are bad from the beginning on, the other spares are lost on the way.
func TestBadBlocksAndFailures(t *testing.T) {
	t.Parallel()
	l := plans()
	several(t, len(l), func(t *testing.T, i int) {
		p := l[i]
		for n := range p.spares + 1 {
			var bad []int
			for b := range n {
				bad = append(bad, (2*b+i)%p.g.Blocks)
			}
			slices.Sort(bad)
			bad = slices.Compact(bad)
			d := &dice{uint32(n)}
			at := 2 * p.g.Blocks
			var fates []api.Fate
			for range p.spares - len(bad) {
				at += 1 + d.below(60)
				fates = append(fates, api.Fate{At: at, Do: fail, Keep: d.below(cellsOf(p.g))})
			}
			standsFirm(t, p, bad, script(p, 300, uint32(i)), fates...)
		}
	})
}

// Failures, and losses of power all along.
func TestFailuresAndLossesOfPower(t *testing.T) {
	t.Parallel()
	l := plans()
	several(t, 20*len(l), func(t *testing.T, i int) {
		p, d := l[i%len(l)], &dice{uint32(i)}
		fates := everySo(p.g, d, func() int { return d.below(cellsOf(p.g) + 1) })
		for range p.spares {
			fates[d.below(60)].Do = fail
		}
		// Cuts just behind a failure, too: ahead of the block's being marked.
		var more []api.Fate
		for k, f := range fates {
			if f.Do == fail && fates[k+1].At > f.At+3 {
				more = append(more, api.Fate{At: f.At + 1 + d.below(3), Do: cut, Keep: d.below(cellsOf(p.g))})
			}
		}
		fates = append(fates[:200], more...)
		r := formatted(t, p, nil, fates...)
		for _, e := range script(p, 200, uint32(i)) {
			if err := r.do(e); err != api.OK && err != api.ErrPower {
				t.Fatalf("%v = %v", e, err)
			}
		}
		is(t, "ReadOnly", r.d.ReadOnly(), false)
		r.reads()
		r.mounts()
	})
}

// An operation fails, and the power goes at any one behind it, with little and with much of it done.
func TestPowerGoesBehindAFailure(t *testing.T) {
	t.Parallel()
	p := plan{api.Geo{Blocks: 6, Pages: 3, W: 1, K: 9}, 1}
	l := writes(p, 30, 6)
	to := opsOf(t, p, l)
	several(t, to, func(t *testing.T, at int) {
		for behind := range 14 {
			for _, keep := range []int{0, 2, 25} {
				r := formatted(t, p, nil, api.Fate{At: at, Do: fail, Keep: behind}, api.Fate{At: at + 1 + behind, Do: cut, Keep: keep})
				r.plays(l)
				is(t, "ReadOnly", r.d.ReadOnly(), false)
				r.reads()
			}
		}
	})
}

// A block that is marked stays as it is: it is neither programmed nor wiped.
func TestMarkedStaysAsItIs(t *testing.T) {
	t.Parallel()
	p := plan{api.Geo{Blocks: 8, Pages: 4, W: 1, K: 9}, 3}
	for seed := range uint32(30) {
		d := &dice{seed}
		fates := []api.Fate{{At: 30 + d.below(30), Do: fail, Keep: 3}, {At: 70 + d.below(30), Do: fail}, {At: 110 + d.below(30), Do: fail, Keep: 3}}
		r := formatted(t, p, nil, fates...)
		had := map[int]int{}
		for _, e := range writes(p, 200, seed) {
			r.do(e)
			for b, s := range asked(t, r.c, sightsOf) {
				is := len(s.Found)*100 + s.Used*10 + s.Torn
				if was, ok := had[b]; ok && was != is {
					t.Fatalf("block %d is marked, and changed", b)
				}
				if slices.Contains(r.bad, b) {
					had[b] = is
				}
			}
		}
		r.reads()
	}
}

// No page of a marked block has a greater Seq than the one that says what a host page is: also when that was moved.
func TestTheGreatestSeqCounts(t *testing.T) {
	t.Parallel()
	p := plan{api.Geo{Blocks: 8, Pages: 5, W: 1, K: 9}, 3}
	l := writes(p, 120, 8)
	to := opsOf(t, p, l)
	several(t, 20, func(t *testing.T, i int) {
		d := &dice{uint32(i)}
		var fates []api.Fate
		for at := 20; len(fates) < p.spares; at += 1 + d.below(to/4) {
			fates = append(fates, api.Fate{At: at, Do: fail, Keep: 1})
		}
		r := formatted(t, p, nil, fates...)
		for _, e := range l {
			r.do(e)
			counts := map[int]int{}
			for _, f := range latest(t, r.c) {
				counts[f.Mark.Lpn] = f.Mark.Seq
			}
			for b, s := range asked(t, r.c, sightsOf) {
				for _, f := range s.Found {
					if f.Mark.Seq > counts[f.Mark.Lpn] {
						t.Fatalf("behind %v block %d has %+v", e, b, f)
					}
				}
			}
		}
	})
}
