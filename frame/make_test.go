package frame_test

import (
	"math"
	"slices"
	"testing"

	"blackboard/api"
	"blackboard/code"
	"blackboard/field"
	"blackboard/frame"
	"blackboard/weave"
)

// far are numbers of no head: also such whose lowest 10, 16, 20, 32 or 40 bits would do.
var far = []int{math.MinInt, math.MinInt + 1, -1<<40 + 1, -1 << 40, -1<<32 + 1, math.MinInt32, -1<<20 + 1, -1<<16 + 1, -1024, -1023, -2, -1, 1 << 40, 1<<40 + 1, 1<<41 + 5, 1 << 62, 1<<62 + 1, math.MaxInt - 1, math.MaxInt}

// P11.1: what is refused.

func TestMakeRefusesGeometriesThatMayNotBe(t *testing.T) {
	for _, g := range never {
		for _, n := range []int{0, 1, 64, 65, 66, 310} {
			unmade(t, g, heads[0], make([]byte, n), api.ErrArg)
		}
	}
}

func TestMakeTakesKindsFrom1To1023(t *testing.T) {
	data := make([]byte, sizeOf(wide))
	for kind := 1; kind < kinds; kind++ {
		if s := made(t, wide, api.Mark{Kind: kind}, data); s[0] != uint16(kind) {
			t.Errorf("kind %d: %v", kind, s[:head])
		}
	}
	for _, kind := range append([]int{0, 1024, 1025, 2047, 2048, 1<<16 + 1, 1 << 20, 1<<32 + 1}, far...) {
		unmade(t, wide, api.Mark{Kind: kind}, data, api.ErrArg)
	}
}

func TestMakeTakesLpnsFrom0ToTheLast(t *testing.T) {
	data := make([]byte, sizeOf(wide))
	for _, lpn := range []int{0, 1, 1023, 1024, 1025, 1<<16 + 1, lpns / 2, lpns - 2, lpns - 1} {
		made(t, wide, api.Mark{Kind: 1, Lpn: lpn}, data)
	}
	for _, lpn := range append([]int{lpns, lpns + 1, 2 * lpns, 1 << 30, 1 << 32, 1<<32 + 1}, far...) {
		unmade(t, wide, api.Mark{Kind: 1, Lpn: lpn}, data, api.ErrArg)
	}
}

func TestMakeTakesSeqsFrom0ToTheLast(t *testing.T) {
	data := make([]byte, sizeOf(wide))
	for _, seq := range []int{0, 1, 1023, 1024, 1<<20 - 1, 1 << 20, 1<<30 - 1, 1 << 30, 1 << 31, 1 << 32, 1<<32 + 1, seqs - 2, seqs - 1} {
		made(t, wide, api.Mark{Kind: 1, Seq: seq}, data)
	}
	for _, seq := range append([]int{seqs, seqs + 1, 2 * seqs}, far...) {
		unmade(t, wide, api.Mark{Kind: 1, Seq: seq}, data, api.ErrArg)
	}
}

func TestMakeRefusesDataOfAnotherSize(t *testing.T) {
	for _, g := range sizes {
		n := sizeOf(g)
		made(t, g, heads[1], make([]byte, n))
		unmade(t, g, heads[1], nil, api.ErrSize)
		unmade(t, g, heads[1], []byte{}, api.ErrSize)
		unmade(t, g, heads[1], make([]byte, n-1), api.ErrSize)
		unmade(t, g, heads[1], make([]byte, n+1), api.ErrSize)
		unmade(t, g, heads[1], make([]byte, n-1, n), api.ErrSize) // spare room holds no data
		unmade(t, g, heads[1], make([]byte, 2*n), api.ErrSize)
		unmade(t, g, heads[1], make([]byte, n+256), api.ErrSize)
		unmade(t, g, heads[1], make([]byte, n+1<<16), api.ErrSize)
	}
}

func TestMakeNamesTheArgumentAheadOfTheSize(t *testing.T) {
	for _, n := range []int{0, sizeOf(wide) - 1, sizeOf(wide) + 1} {
		data := make([]byte, n)
		for _, m := range []api.Mark{{}, {Kind: 1024}, {Kind: 1, Lpn: -1}, {Kind: 1, Lpn: lpns}, {Kind: 1, Seq: -1}, {Kind: 1, Seq: seqs}} {
			unmade(t, wide, m, data, api.ErrArg)
		}
		for _, g := range never {
			unmade(t, g, heads[0], data, api.ErrArg)
			unmade(t, g, api.Mark{}, data, api.ErrArg)
		}
	}
}

// P11.1: the head.

func TestMakeLaysTheHeadInItsOrder(t *testing.T) {
	for _, c := range []struct {
		m    api.Mark
		want list
	}{
		{api.Mark{Kind: 1, Lpn: 2<<10 | 3, Seq: 4<<30 | 5<<20 | 6<<10 | 7}, list{1, 2, 3, 4, 5, 6, 7, 0}},
		{api.Mark{Kind: 1}, list{1, 0, 0, 0, 0, 0, 0, 0}},
		{api.Mark{Kind: 1023}, list{1023, 0, 0, 0, 0, 0, 0, 0}},
		{api.Mark{Kind: 1, Lpn: 1 << 10}, list{1, 1, 0, 0, 0, 0, 0, 0}},
		{api.Mark{Kind: 1, Lpn: 1}, list{1, 0, 1, 0, 0, 0, 0, 0}},
		{api.Mark{Kind: 1, Seq: 1 << 30}, list{1, 0, 0, 1, 0, 0, 0, 0}},
		{api.Mark{Kind: 1, Seq: 1 << 20}, list{1, 0, 0, 0, 1, 0, 0, 0}},
		{api.Mark{Kind: 1, Seq: 1 << 10}, list{1, 0, 0, 0, 0, 1, 0, 0}},
		{api.Mark{Kind: 1, Seq: 1}, list{1, 0, 0, 0, 0, 0, 1, 0}},
		{api.Mark{Kind: 1023, Lpn: lpns - 1, Seq: seqs - 1}, list{1023, 1023, 1023, 1023, 1023, 1023, 1023, 0}},
	} {
		for _, g := range sizes {
			s := made(t, g, c.m, make([]byte, sizeOf(g)))
			if !slices.Equal(s[:head], c.want) { // dealt round and woven again, it comes first
				t.Errorf("%+v: the head of %+v is %v, want %v", g, c.m, s[:head], c.want)
			}
		}
	}
}

func TestMakeOfNoughtsIsTheirHead(t *testing.T) {
	for _, g := range sizes {
		s := made(t, g, heads[3], make([]byte, sizeOf(g)))
		if rest := s[head : g.W*g.K]; !slices.Equal(rest, make(list, len(rest))) {
			t.Errorf("%+v: behind the head: %v", g, rest)
		}
	}
}

// P11.1: the data.

func TestMakeLaysTheDataBehindTheHead(t *testing.T) {
	for _, c := range []struct {
		g    api.Geo
		data []byte
		want list
	}{
		{api.Geo{Blocks: 4, Pages: 2, W: 1, K: 9}, []byte{255}, list{1020}},
		{api.Geo{Blocks: 4, Pages: 2, W: 1, K: 10}, []byte{255, 255}, list{1023, 1008}},
		{api.Geo{Blocks: 4, Pages: 2, W: 1, K: 11}, []byte{1, 2, 3}, list{4, 32, 192}},
		{api.Geo{Blocks: 4, Pages: 2, W: 1, K: 12}, []byte{255, 255, 255, 255, 255}, list{1023, 1023, 1023, 1023}},
		{api.Geo{Blocks: 4, Pages: 2, W: 2, K: 5}, []byte{1, 2}, list{4, 32}},
		{api.Geo{Blocks: 4, Pages: 2, W: 2, K: 6}, []byte{0, 0, 0, 0, 1}, list{0, 0, 0, 1}},
		{api.Geo{Blocks: 4, Pages: 2, W: 3, K: 4}, []byte{128, 0, 0, 0, 1}, list{512, 0, 0, 1}},
		{api.Geo{Blocks: 4, Pages: 2, W: 4, K: 3}, []byte{1, 2, 3, 4, 5}, list{4, 32, 193, 5}},
	} {
		s := made(t, c.g, heads[1], c.data)
		if got := s[head : c.g.W*c.g.K]; !slices.Equal(got, c.want) {
			t.Errorf("%+v: %v lie as %v, want %v", c.g, c.data, got, c.want)
		}
	}
}

func TestMakeDealsRoundTheRows(t *testing.T) {
	d := dice{1}
	for _, g := range sizes {
		data := d.bytes(sizeOf(g))
		said := content(g, heads[5], data)
		rows, err := weave.In(g.W, made(t, g, heads[5], data))
		if err != api.OK {
			t.Fatal(err)
		}
		for i, x := range said {
			if got := rows[i%g.W][i/g.W]; got != x {
				t.Errorf("%+v: symbol %d is %d, want %d", g, i, got, x)
			}
		}
	}
}

func TestMakeMakesCodewordsOfAllRows(t *testing.T) {
	d := dice{2}
	for _, g := range sizes {
		for range 20 {
			rows, err := weave.In(g.W, made(t, g, d.mark(), d.bytes(sizeOf(g))))
			if err != api.OK {
				t.Fatal(err)
			}
			for i, row := range rows {
				if s := code.Syndromes(tables, row); len(row) != g.K+parity || !slices.Equal(s, make(list, parity)) {
					t.Errorf("%+v: row %d of %d symbols has the syndromes %v", g, i, len(row), s)
				}
			}
		}
	}
}

func TestMakeOfEachGeometryHeadAndData(t *testing.T) {
	d := dice{3}
	for w := 1; w <= 4; w++ {
		for k := 1; k <= 64; k++ {
			g := api.Geo{Blocks: 4, Pages: 2, W: w, K: k}
			if w*k <= head {
				unmade(t, g, heads[0], make([]byte, 1), api.ErrArg)
				continue
			}
			if s := made(t, g, d.mark(), d.bytes(sizeOf(g))); len(s) != cellsOf(g) {
				t.Errorf("%+v: %d symbols", g, len(s))
			}
		}
	}
	for _, g := range sizes {
		for _, m := range heads {
			made(t, g, m, d.bytes(sizeOf(g)))
			made(t, g, m, slices.Repeat([]byte{255}, sizeOf(g)))
		}
	}
}

// Blocks and pages have no part in what a page says.
func TestMakeOfDevicesOfAnySize(t *testing.T) {
	data := (&dice{4}).bytes(sizeOf(wide))
	want := made(t, wide, heads[5], data)
	for _, blocks := range []int{4, 64} {
		for _, pages := range []int{2, 32} {
			g := api.Geo{Blocks: blocks, Pages: pages, W: wide.W, K: wide.K}
			if got := made(t, g, heads[5], data); !slices.Equal(got, want) {
				t.Errorf("%+v: %v, want %v", g, got, want)
			}
		}
	}
}

// What holds everywhere.

func TestMakeLeavesTheDataAsTheyWere(t *testing.T) {
	d := dice{5}
	for _, g := range sizes {
		n := sizeOf(g)
		data := d.bytes(n + 40)[:n]
		was := slices.Clone(whole(data))
		for _, l := range [][]byte{data, data[:n-1], data[: n+1 : n+2]} {
			frame.Make(tables, g, heads[2], l)
			frame.Make(tables, g, api.Mark{}, l)
			frame.Make(tables, api.Geo{}, heads[2], l)
		}
		if !slices.Equal(whole(data), was) {
			t.Errorf("%+v: the data were changed", g)
		}
	}
}

func TestMakeAnswersNewMemory(t *testing.T) {
	data := (&dice{6}).bytes(sizeOf(wide))
	first := made(t, wide, heads[1], data)
	for i := range whole(first) {
		whole(first)[i] = 1
	}
	second := made(t, wide, heads[1], data)
	was := slices.Clone(second)
	for i := range data {
		data[i] = 9
	}
	if !slices.Equal(second, was) {
		t.Error("what was made hangs on the data")
	}
}

func TestMakeWithTablesThatNobodyMade(t *testing.T) {
	d := dice{7}
	for _, g := range sizes {
		m, data := d.mark(), d.bytes(sizeOf(g))
		got, err := frame.Make(field.Tables{}, g, m, data)
		if want := made(t, g, m, data); err != api.OK || !slices.Equal(got, want) {
			t.Errorf("%+v: %v, %v, want %v", g, got, err, want)
		}
	}
	if got, err := frame.Make(field.Tables{}, wide, heads[0], nil); err != api.ErrSize || len(got) != 0 {
		t.Errorf("no data: %v, %v", got, err)
	}
}
