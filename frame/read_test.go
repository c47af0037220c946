package frame_test

import (
	"math"
	"slices"
	"strconv"
	"testing"

	"blackboard/api"
	"blackboard/cells"
	"blackboard/field"
	"blackboard/frame"
)

// P11.2: what is refused.

func TestReadRefusesGeometriesThatMayNotBe(t *testing.T) {
	for _, g := range never {
		for _, n := range []int{0, 1, 24, 72, 107, 108, 109, 320} {
			unread(t, g, make([]complex128, n), api.ErrArg)
			unread(t, g, fresh(make(list, n)), api.ErrArg)
		}
		unread(t, g, nil, api.ErrArg)
	}
}

func TestReadRefusesPointsOfAnotherNumber(t *testing.T) {
	d := dice{11}
	for _, g := range sizes {
		data := d.bytes(sizeOf(g))
		p := fresh(made(t, g, heads[1], data))
		n := len(p)
		unread(t, g, nil, api.ErrSize)
		unread(t, g, []complex128{}, api.ErrSize)
		unread(t, g, p[:1], api.ErrSize)
		unread(t, g, p[:n-1], api.ErrSize) // what lies in the spare room is not read
		unread(t, g, append(slices.Clone(p), -31-31i), api.ErrSize)
		unread(t, g, p[:n-g.W], api.ErrSize)
		unread(t, g, append(slices.Clone(p), p[:g.W]...), api.ErrSize)
		unread(t, g, append(slices.Clone(p), p...), api.ErrSize)
		reads(t, g, p, heads[1], data, 0)
	}
}

func TestReadOfABlankPage(t *testing.T) {
	for _, g := range sizes {
		p := make([]complex128, cellsOf(g))
		unread(t, g, p, api.ErrNone)
		for i := range p {
			p[i] = noughts[i%len(noughts)]
		}
		unread(t, g, p, api.ErrNone)
	}
}

// Of two things that are wrong it is the one named first.
func TestReadNamesTheFirstError(t *testing.T) {
	for _, g := range never {
		unread(t, g, make([]complex128, cellsOf(wide)), api.ErrArg) // blank, too
	}
	n := cellsOf(wide)
	for _, short := range [][]complex128{nil, make([]complex128, n-1), make([]complex128, n+1)} {
		unread(t, wide, short, api.ErrSize) // blank, too
	}
	unread(t, wide, make([]complex128, n), api.ErrNone) // each codeword has more than eight points 0, too

	// No head is what Make makes, and codeword w can't be mended either: also one of those that hold no symbol of Kind.
	s := paged(wide, make(list, wide.W*wide.K))
	for w := range wide.W {
		p := fresh(s)
		wrong(wide, p, s, w, upTo(3, 3+most+1), 5)
		unread(t, wide, p, api.ErrData)
		p = fresh(s)
		without(wide, p, w, upTo(3, 3+most+1))
		unread(t, wide, p, api.ErrData)
		p = fresh(s)
		wrong(wide, p, s, w, upTo(3, 3+most), 5)
		unread(t, wide, p, api.ErrForm)
	}
}

// P11.2: what Make made.

func TestReadOfWhatMakeMade(t *testing.T) {
	d := dice{12}
	for _, g := range sizes {
		for _, m := range heads {
			for _, data := range [][]byte{make([]byte, sizeOf(g)), slices.Repeat([]byte{255}, sizeOf(g)), d.bytes(sizeOf(g))} {
				reads(t, g, fresh(made(t, g, m, data)), m, data, 0)
			}
		}
		for range 10 {
			m, data := d.mark(), d.bytes(sizeOf(g))
			reads(t, g, fresh(made(t, g, m, data)), m, data, 0)
		}
	}
}

func TestReadOfEachGeometry(t *testing.T) {
	d := dice{13}
	for w := 1; w <= 4; w++ {
		for k := head/w + 1; k <= 64; k++ {
			g := api.Geo{Blocks: 4, Pages: 2, W: w, K: k}
			m, data := d.mark(), d.bytes(sizeOf(g))
			s := paged(g, content(g, m, data))
			reads(t, g, fresh(s), m, data, 0)
			p := fresh(s)
			wrong(g, p, s, d.below(w), d.places(most, k+parity), 1+uint16(d.below(1023)))
			reads(t, g, p, m, data, most)
		}
	}
}

// Blocks and pages have no part in what a page says.
func TestReadOfDevicesOfAnySize(t *testing.T) {
	data := (&dice{14}).bytes(sizeOf(wide))
	p := fresh(made(t, wide, heads[5], data))
	for _, blocks := range []int{4, 64} {
		for _, pages := range []int{2, 32} {
			reads(t, api.Geo{Blocks: blocks, Pages: pages, W: wide.W, K: wide.K}, p, heads[5], data, 0)
		}
	}
}

func TestReadOfEachPartOfAHead(t *testing.T) {
	data := make([]byte, sizeOf(wide))
	for bit := range 40 {
		for _, m := range []api.Mark{{Kind: 1 << (bit % 10)}, {Kind: 1, Lpn: 1 << (bit % 20)}, {Kind: 1, Seq: 1 << bit}} {
			reads(t, wide, fresh(made(t, wide, m, data)), m, data, 0)
		}
	}
}

// P11.2: wrong symbols.

func TestReadMendsEightInEachCodeword(t *testing.T) {
	d := dice{15}
	for _, g := range sizes {
		m, data := d.mark(), d.bytes(sizeOf(g))
		s := made(t, g, m, data)
		all := fresh(s)
		for w := range g.W {
			for n := 1; n <= most; n++ {
				p := fresh(s)
				wrong(g, p, s, w, d.places(n, g.K+parity), 1+uint16(d.below(1023)))
				reads(t, g, p, m, data, n)
			}
			wrong(g, all, s, w, d.places(most, g.K+parity), 1+uint16(d.below(1023)))
		}
		reads(t, g, all, m, data, most)
	}
}

func TestReadMendsHeadDataAndWhatIsBehind(t *testing.T) {
	g := api.Geo{Blocks: 4, Pages: 2, W: 1, K: 20}
	data := (&dice{16}).bytes(sizeOf(g))
	s := made(t, g, heads[2], data)
	for from := 0; from+most <= g.K+parity; from++ {
		for _, by := range []uint16{1, 32, 33, 512, 1023} {
			p := fresh(s)
			wrong(g, p, s, 0, upTo(from, from+most), by)
			reads(t, g, p, heads[2], data, most)
		}
	}
}

func TestReadDoesNotMendNine(t *testing.T) {
	d := dice{17}
	for _, g := range sizes {
		m, data := d.mark(), d.bytes(sizeOf(g))
		s := made(t, g, m, data)
		for w := range g.W {
			for _, n := range []int{most + 1, most + 2, parity, g.K + parity} {
				p := fresh(s)
				for _, i := range d.places(n, g.K+parity) {
					wrong(g, p, s, w, []int{i}, 1+uint16(d.below(1023)))
				}
				unread(t, g, p, api.ErrData)
			}
		}
	}
}

func TestReadTellsTheGreatestNumber(t *testing.T) {
	d := dice{18}
	data := d.bytes(sizeOf(wide))
	s := made(t, wide, heads[5], data)
	for _, c := range []struct{ wrong, off [3]int }{
		{wrong: [3]int{1, 0, 0}}, {wrong: [3]int{0, 1, 0}}, {wrong: [3]int{0, 0, 1}},
		{wrong: [3]int{2, 5, 3}}, {wrong: [3]int{5, 3, 2}}, {wrong: [3]int{3, 2, 5}},
		{wrong: [3]int{8, 8, 8}}, {wrong: [3]int{8, 0, 1}}, {wrong: [3]int{0, 7, 8}},
		{off: [3]int{1, 0, 0}}, {off: [3]int{0, 2, 1}}, {off: [3]int{8, 7, 8}},
		{wrong: [3]int{3, 1, 0}, off: [3]int{0, 4, 0}}, {wrong: [3]int{4, 0, 3}, off: [3]int{0, 4, 3}},
		{wrong: [3]int{1, 7, 2}, off: [3]int{7, 1, 2}}, {wrong: [3]int{0, 1, 0}, off: [3]int{2, 0, 0}},
	} {
		p, worst := fresh(s), 0
		for w := range wide.W {
			places := d.places(c.wrong[w]+c.off[w], wide.K+parity)
			wrong(wide, p, s, w, places[:c.wrong[w]], 3)
			without(wide, p, w, places[c.wrong[w]:])
			worst = max(worst, c.wrong[w]+c.off[w])
		}
		reads(t, wide, p, heads[5], data, worst)
	}
}

// P11.2: points that are just 0.

// middles is a page of one codeword whose data are all the symbol to which the point 0 is nearest, and how it says so.
func middles(t *testing.T) (api.Geo, api.Mark, []byte, list) {
	t.Helper()
	g := api.Geo{Blocks: 4, Pages: 2, W: 1, K: 28} // 25 bytes are its 20 symbols
	var text string
	for range g.K - head {
		text += figures(middle, 10)
	}
	data := make([]byte, sizeOf(g))
	for i := range data {
		n, _ := strconv.ParseUint(text[8*i:8*i+8], 2, 8)
		data[i] = byte(n)
	}
	s := made(t, g, heads[1], data)
	if behind := s[head:g.K]; !slices.Equal(behind, slices.Repeat(list{middle}, g.K-head)) {
		t.Fatalf("behind the head: %v", behind)
	}
	return g, heads[1], data, s
}

func TestReadCountsPointsAt0(t *testing.T) {
	d := dice{19}
	for _, g := range sizes {
		m, data := d.mark(), d.bytes(sizeOf(g))
		s := made(t, g, m, data)
		for w := range g.W {
			for n := 1; n <= most+1; n++ {
				p := fresh(s)
				without(g, p, w, d.places(n, g.K+parity))
				if n <= most {
					reads(t, g, p, m, data, n)
				} else {
					unread(t, g, p, api.ErrData)
				}
			}
		}
	}
}

// A point at 0 counts also where its nearest symbol is the right one: no symbol at all is wrong there.
func TestReadCountsPointsAt0ThatAreNotWrong(t *testing.T) {
	g, m, data, s := middles(t)
	for n := 1; n <= g.K-head; n++ {
		for _, zero := range noughts {
			p := fresh(s)
			for i := range n {
				p[head+i] = zero
			}
			if n <= most {
				reads(t, g, p, m, data, n)
			} else {
				unread(t, g, p, api.ErrData)
			}
		}
	}
}

func TestReadCountsPointsAt0BesideWrongOnes(t *testing.T) {
	g, m, data, s := middles(t)
	for off := range most + 2 {
		for right := range off + 1 { // so many of those at 0 have the right symbol still
			for _, both := range []int{most, most + 1} {
				if off > both {
					continue
				}
				p := fresh(s)
				without(g, p, 0, upTo(head, head+right))
				without(g, p, 0, upTo(g.K, g.K+off-right))
				wrong(g, p, s, 0, upTo(g.K+off, g.K+both), 7)
				if both <= most {
					reads(t, g, p, m, data, both)
				} else {
					unread(t, g, p, api.ErrData)
				}
			}
		}
	}
}

// Each codeword has points and bounds of its own.
func TestReadCountsPointsAt0InTheirOwnCodeword(t *testing.T) {
	data := (&dice{20}).bytes(sizeOf(wide))
	s := made(t, wide, heads[5], data)
	for w := range wide.W {
		p := fresh(s)
		without(wide, p, w, upTo(2, 2+most))
		wrong(wide, p, s, (w+1)%wide.W, upTo(9, 9+most), 4)
		reads(t, wide, p, heads[5], data, most)
		without(wide, p, w, upTo(20, 21))
		unread(t, wide, p, api.ErrData)
		p = fresh(s)
		without(wide, p, w, upTo(2, 5))
		wrong(wide, p, s, w, upTo(5, 9), 4)
		without(wide, p, (w+1)%wide.W, upTo(0, 6))
		wrong(wide, p, s, (w+2)%wide.W, upTo(0, 5), 4)
		reads(t, wide, p, heads[5], data, 7)
	}
}

// With one part at 0 alone, or near to it, a point is like any other.
func TestReadTakesPointsNearTo0AsTheirSymbols(t *testing.T) {
	g, m, data, s := middles(t)
	for _, x := range []complex128{1i, 1, complex(1e-300, 0), complex(0, math.SmallestNonzeroFloat64), 0.5 + 0.5i, complex(minus, 1)} {
		p := fresh(s)
		for i := range g.K - head {
			p[head+i] = x
		}
		reads(t, g, p, m, data, 0)
	}
}

// P11.2: points that were moved.

func TestReadOfPointsMovedByLessThanASymbol(t *testing.T) {
	d := dice{21}
	for _, g := range sizes {
		m, data := d.mark(), d.bytes(sizeOf(g))
		s := made(t, g, m, data)
		for _, by := range []complex128{0.5, -0.5i, 0.99 - 0.99i, -0.25 + 0.75i, -1, -1i, -1 - 1i} { // of two symbols as near it is the upper one
			p := fresh(s)
			for i := range p {
				p[i] += by
				if p[i] == 0 { // just there it counts
					p[i] = of(s[i])
				}
			}
			reads(t, g, p, m, data, 0)
		}
	}
}

func TestReadOfPointsMovedByMore(t *testing.T) {
	data := (&dice{22}).bytes(sizeOf(wide))
	s := made(t, wide, heads[5], data)
	for _, by := range []complex128{1, 1i, 2, -2i, -2 + 2i, 7 + 1i, -62 - 62i, 62i, 1000 - 1000i} {
		for w := range wide.W {
			p, worst := fresh(s), 0
			for i := 0; worst <= most; i++ {
				at := place(wide, w, i)
				if nearest(p[at]+by) == s[at] { // at the rim it is still the nearest
					continue
				}
				p[at] += by
				worst++
				if worst <= most {
					reads(t, wide, p, heads[5], data, worst)
				}
			}
			unread(t, wide, p, api.ErrData)
		}
	}
}

// nearest is the symbol whose point is nearest to p, looked for among all, apart from what package point does.
func nearest(p complex128) uint16 {
	best, which := math.Inf(1), uint16(0)
	for s := range uint16(1024) { // rising: of two as near the upper one is the last
		away := p - of(s)
		if far := real(away)*real(away) + imag(away)*imag(away); far <= best {
			best, which = far, s
		}
	}
	return which
}

func TestReadOfPointsBeyondTheRim(t *testing.T) {
	g := api.Geo{Blocks: 4, Pages: 2, W: 1, K: 28}
	data := slices.Repeat([]byte{255}, sizeOf(g))
	s := made(t, g, api.Mark{Kind: 1023, Lpn: lpns - 1, Seq: seqs - 1}, data)
	p := fresh(s)
	for i := range p {
		if s[i] == 1023 {
			p[i] = complex(math.Inf(1), 1e9)
		}
	}
	reads(t, g, p, api.Mark{Kind: 1023, Lpn: lpns - 1, Seq: seqs - 1}, data, 0)
}

// What is no number is sliced as 0 is, part by part, and is not just 0.
func TestReadOfPointsThatAreNoNumbers(t *testing.T) {
	g := api.Geo{Blocks: 4, Pages: 2, W: 1, K: 28}
	data := make([]byte, sizeOf(g))
	s := made(t, g, heads[0], data)
	p := fresh(s)
	for i := head; i < g.K; i++ {
		p[i] = complex(math.NaN(), math.NaN())
	}
	reads(t, g, p, heads[0], data, 0)
	p = fresh(s)
	for i := head; i < g.K; i++ {
		p[i] = complex(math.NaN(), -31)
	}
	reads(t, g, p, heads[0], data, 0)

	g, m, data, s := middles(t)
	for n := 1; n <= most+1; n++ {
		for _, x := range []complex128{complex(math.NaN(), math.NaN()), complex(0, math.NaN()), complex(math.NaN(), 0), complex(math.Inf(1), math.Inf(-1))} {
			p = fresh(s)
			for i := range n {
				p[head+i] = x
			}
			if n <= most {
				reads(t, g, p, m, data, n)
			} else {
				unread(t, g, p, api.ErrData)
			}
		}
	}

	p = make([]complex128, cellsOf(g))
	for i := range p {
		p[i] = complex(math.NaN(), math.NaN())
	}
	unread(t, g, p, api.ErrForm) // symbols 0 alone: a codeword, but of no head
}

// P11.2: a page in part.

func TestReadOfAPageWhoseFirstCellsAreProgrammed(t *testing.T) {
	d := dice{23}
	for _, g := range sizes {
		m, data := d.mark(), d.bytes(sizeOf(g))
		s := made(t, g, m, data)
		for keep := range len(s) + 1 {
			c := cells.New(len(s))
			if err := c.Program(s, keep); err != api.OK {
				t.Fatal(err)
			}
			gone := len(s) - keep
			worst := (gone + g.W - 1) / g.W
			switch {
			case keep == 0:
				unread(t, g, c.Sense(), api.ErrNone)
			case worst <= most:
				reads(t, g, c.Sense(), m, data, worst)
			default:
				unread(t, g, c.Sense(), api.ErrData)
			}
		}
	}
}

// P11.2: what Make would not have made.

// spoilt are what a page says, with one symbol in it another: of which Make makes no page.
func spoilt(g api.Geo, m api.Mark, data []byte) []list {
	var l []list
	spoil := func(at int, x uint16) {
		s := content(g, m, data)
		s[at] = x
		l = append(l, s)
	}
	spoil(0, 0)
	for bit := range 10 {
		spoil(head-1, 1<<bit)
	}
	spoil(head-1, 1023)
	last := g.W*g.K - 1
	for bit := range spareOf(g) { // also where they are the last symbol's only bits that are not 0
		spoil(last, content(g, m, data)[last]|1<<bit)
		spoil(last, 1<<bit)
	}
	return l
}

func TestReadRefusesWhatMakeWouldNotMake(t *testing.T) {
	d := dice{24}
	spare := 0
	for _, g := range sizes {
		spare += spareOf(g)
		for _, data := range [][]byte{make([]byte, sizeOf(g)), slices.Repeat([]byte{255}, sizeOf(g)), d.bytes(sizeOf(g))} {
			for _, said := range spoilt(g, heads[5], data) {
				s := paged(g, said)
				unread(t, g, fresh(s), api.ErrForm)
				p := fresh(s)
				for w := range g.W { // mended, it says no other
					wrong(g, p, s, w, d.places(most, g.K+parity), 1+uint16(d.below(1023)))
				}
				unread(t, g, p, api.ErrForm)
			}
		}
	}
	if spare == 0 {
		t.Error("no page has bits behind its last byte")
	}
}

func TestReadOfSymbols0IsOfNoHead(t *testing.T) {
	for _, g := range sizes {
		unread(t, g, fresh(make(list, cellsOf(g))), api.ErrForm)
	}
}

// What spoils a page is mended ahead of what it says: a symbol that has moved there does no harm.
func TestReadMendsAheadOfTheForm(t *testing.T) {
	d := dice{25}
	for _, g := range sizes {
		data := d.bytes(sizeOf(g))
		s := made(t, g, heads[5], data)
		for _, said := range spoilt(g, heads[5], data) {
			p := fresh(s)
			copy(p, fresh(said)) // one symbol is another
			reads(t, g, p, heads[5], data, 1)
		}
	}
}

// What is near to a word of no head is that one, however far it is from one that has a head.
func TestReadOfAHeadThatMendingTakesAway(t *testing.T) {
	for _, g := range sizes {
		s := paged(g, make(list, g.W*g.K))
		p := fresh(s)
		p[0] = of(1) // Kind 1, as it stands there
		unread(t, g, p, api.ErrForm)
	}
}

// What holds everywhere.

// Pages of any wear are held against the count of what was done to them.
func TestReadOfAnyWear(t *testing.T) {
	d := dice{26}
	read, lost := 0, 0
	for range 400 {
		g := sizes[d.below(len(sizes))]
		m, data := d.mark(), d.bytes(sizeOf(g))
		s := made(t, g, m, data)
		p, worst := fresh(s), 0
		for w := range g.W {
			n := d.below(most + 1)
			if d.below(10) == 0 {
				n = most + 1 + d.below(g.K)
			}
			for _, i := range d.places(n, g.K+parity) {
				if d.below(2) == 0 {
					without(g, p, w, []int{i})
				} else {
					wrong(g, p, s, w, []int{i}, 1+uint16(d.below(1023)))
				}
			}
			worst = max(worst, n)
		}
		if worst <= most {
			read++
			reads(t, g, p, m, data, worst)
		} else {
			lost++
			unread(t, g, p, api.ErrData)
		}
	}
	if read == 0 || lost == 0 {
		t.Errorf("%d were read, %d were not", read, lost)
	}
}

// Points that were those of no page are within eight of none.
func TestReadOfAnyPoints(t *testing.T) {
	d := dice{27}
	for range 300 {
		g := sizes[d.below(len(sizes))]
		p := make([]complex128, cellsOf(g))
		for i := range p {
			switch d.below(4) {
			case 0:
				p[i] = others[d.below(len(others))]
			case 1:
				p[i] = noughts[d.below(len(noughts))]
			default:
				p[i] = complex(float64(d.below(200)-100)/4, float64(d.below(200)-100)/4)
			}
		}
		unread(t, g, p, api.ErrData)
	}
}

func TestReadLeavesThePointsAsTheyWere(t *testing.T) {
	d := dice{28}
	for _, g := range sizes {
		n := cellsOf(g)
		s := made(t, g, heads[5], d.bytes(sizeOf(g)))
		p := append(fresh(s), others...)
		wrong(g, p, s, 0, d.places(most, g.K+parity), 9)
		p[n-1] = complex(minus, 0)
		was := slices.Clone(whole(p))
		for _, l := range [][]complex128{p[:n], p[:n-1], p[:n+1], p[:n:n], p} {
			frame.Read(tables, g, l)
			frame.Read(tables, api.Geo{}, l)
		}
		without(g, p, 0, upTo(0, g.K+parity))
		without(g, was, 0, upTo(0, g.K+parity))
		frame.Read(tables, g, p[:n])
		if !like(whole(p), was) {
			t.Errorf("%+v: the points were changed", g)
		}
	}
}

func TestReadAnswersNewMemory(t *testing.T) {
	data := (&dice{29}).bytes(sizeOf(wide))
	p := fresh(made(t, wide, heads[1], data))
	_, first, _, _ := frame.Read(tables, wide, p)
	for i := range whole(first) {
		whole(first)[i]++
	}
	reads(t, wide, p, heads[1], data, 0)
	_, second, _, _ := frame.Read(tables, wide, p)
	clear(p)
	if !slices.Equal(second, data) {
		t.Error("what was read hangs on the points")
	}
}

func TestReadWithTablesThatNobodyMade(t *testing.T) {
	d := dice{30}
	for _, g := range sizes[:6] {
		data := d.bytes(sizeOf(g))
		s := made(t, g, heads[5], data)
		p := fresh(s)
		wrong(g, p, s, 0, d.places(most, g.K+parity), 6)
		m, got, n, err := frame.Read(field.Tables{}, g, p)
		if m != heads[5] || !slices.Equal(got, data) || n != most || err != api.OK {
			t.Errorf("Read(%+v, ..) = %+v, %v, %d, %v", g, m, got, n, err)
		}
	}
	m, got, n, err := frame.Read(field.Tables{}, wide, make([]complex128, cellsOf(wide)))
	if m != (api.Mark{}) || len(got) != 0 || n != 0 || err != api.ErrNone {
		t.Errorf("a blank page: %+v, %v, %d, %v", m, got, n, err)
	}
}
