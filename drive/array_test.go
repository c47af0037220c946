package drive_test

import (
	"bytes"
	"testing"

	"blackboard/api"
	"blackboard/drive"
)

// P20.2: Write, Read, Trim, Flush, held against an array (T1).

func TestAsTheArray(t *testing.T) {
	t.Parallel()
	var l []plan
	for _, p := range plans() {
		for spares := range p.g.Blocks - apart {
			l = append(l, plan{p.g, spares})
		}
	}
	several(t, len(l), func(t *testing.T, i int) {
		r := formatted(t, l[i], nil)
		for k, e := range script(l[i], 100*lpnsOf(l[i])+200, uint32(i)) {
			if err := r.do(e); err != api.OK {
				t.Fatalf("%v = %v", e, err)
			}
			if k%97 == 0 {
				r.reads()
			}
		}
		r.reads()
		r.mounts()
		is(t, "Lost", r.d.Lost(), 0)
	})
}

// All host pages are written, in order and backwards, again and again: there is room for all.
func TestAllAreWritten(t *testing.T) {
	t.Parallel()
	l := append(plans(), plan{api.Geo{Blocks: 64, Pages: 2, W: 1, K: 9}, 0}, plan{api.Geo{Blocks: 64, Pages: 2, W: 1, K: 9}, 59}, plan{api.Geo{Blocks: 12, Pages: 32, W: 1, K: 9}, 1})
	several(t, len(l), func(t *testing.T, i int) {
		p := l[i]
		r := formatted(t, p, nil)
		n := lpnsOf(p)
		for round := range 6 {
			for lpn := range n {
				if round%2 == 1 {
					lpn = n - 1 - lpn
				}
				r.do(event{do: write, lpn: lpn, seed: uint32(round*1000 + lpn)})
			}
			r.reads()
		}
		for lpn := range n {
			r.do(event{do: trim, lpn: lpn})
			r.do(event{do: trim, lpn: lpn}) // of what has nothing
		}
		r.mounts()
		noughts(t, r.d, p)
	})
}

// A Trim of what has nothing writes nothing: of what was never written, and of what was trimmed.
func TestTrimOfNothing(t *testing.T) {
	t.Parallel()
	for _, p := range plans() {
		r := formatted(t, p, nil)
		for _, written := range []bool{false, true} {
			if written {
				r.do(event{do: write, lpn: 0, seed: 5})
				r.do(event{do: trim, lpn: 0})
			}
			before := asked(t, r.c, liesOf)
			for lpn := range lpnsOf(p) {
				r.do(event{do: trim, lpn: lpn})
				r.do(event{do: read, lpn: lpn})
				r.do(event{do: flush})
			}
			is(t, "nothing is written", asked(t, r.c, liesOf).same(before), true)
			noughts(t, r.d, p)
		}
	}
}

// What is handed in may be changed, and what is answered: the drive has its own.
func TestBytesAreApart(t *testing.T) {
	t.Parallel()
	for _, p := range plans() {
		_, d := formats(t, p, nil)
		want := (&dice{3}).page(p.g)
		in := append(make([]byte, 0, len(want)+8), want...)
		spare := in[:cap(in)]
		if err := d.Write(0, in); err != api.OK {
			t.Fatal(err)
		}
		if !bytes.Equal(spare, append(want[:len(want):len(want)], make([]byte, cap(in)-len(want))...)) {
			t.Errorf("Write changed what was handed in")
		}
		scribble(in)
		for range 3 {
			got, err := d.Read(0)
			if err != api.OK || !bytes.Equal(got, want) {
				t.Errorf("Read = %v, %v, want %v", got, err, want)
			}
			scribble(got[:cap(got)])
		}
		if err := d.Trim(0); err != api.OK {
			t.Fatal(err)
		}
		for range 2 {
			got, _ := d.Read(0)
			if !bytes.Equal(got, make([]byte, sizeOf(p.g))) {
				t.Errorf("Read of what was trimmed = %v", got)
			}
			scribble(got[:cap(got)])
		}
	}
}

// scribble writes over all of b.
func scribble(b []byte) {
	for i := range b {
		b[i] ^= 0xa5
	}
}

// What was answered OK lasts, without a Flush, and with one.
func TestFlushedOrNot(t *testing.T) {
	t.Parallel()
	for i, p := range plans() {
		r := formatted(t, p, nil)
		for k, e := range writes(p, 60, uint32(i)) {
			r.do(e)
			r.mounts()
			if k%4 == 0 {
				r.do(event{do: flush})
				r.mounts()
			}
		}
	}
}

// Two drives, of a device and of its copy, go their own ways.
func TestTwoDevices(t *testing.T) {
	t.Parallel()
	p := plan{tall, 0}
	a := formatted(t, p, nil)
	a.plays(writes(p, 40, 1))
	b := &rig{t: t, plan: p, c: a.c.Copy(), array: append([][]byte(nil), a.array...)}
	b.mount()
	for i, e := range script(p, 80, 2) {
		a.do(e)
		b.do(event{do: write, lpn: e.lpn, seed: uint32(i)})
		a.reads()
		b.reads()
	}
	if _, err := drive.Format(b.c, 0); err != api.OK {
		t.Fatal(err)
	}
	a.reads()
}
