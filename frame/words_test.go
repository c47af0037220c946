package frame_test

import (
	"slices"
	"testing"

	"blackboard/api"
	"blackboard/field"
	"blackboard/frame"
)

// Words is beside the chapter's functions: what census is built on, read as P11.2 has it.

// rowsOf are the codewords of the page s, each by itself.
func rowsOf(g api.Geo, s list) []list {
	rows := make([]list, g.W)
	for i, x := range s {
		rows[i%g.W] = append(rows[i%g.W], x)
	}
	return rows
}

// words tells what Words answers: of each codeword of the page s so many wrong, or that it can't be read, where that is below 0.
func words(t *testing.T, g api.Geo, p []complex128, s list, wrong ...int) {
	t.Helper()
	got, err := frame.Words(tables, g, p)
	if err != api.OK || len(got) != len(wrong) {
		t.Errorf("Words(%+v, ..) = %v, %v, want %v", g, got, err, wrong)
		return
	}
	for i, row := range rowsOf(g, s) {
		want := frame.Word{Symbols: row, Wrong: wrong[i], Ok: true}
		if wrong[i] < 0 {
			want = frame.Word{}
		}
		if got[i].Ok != want.Ok || got[i].Wrong != want.Wrong || !slices.Equal(got[i].Symbols, want.Symbols) {
			t.Errorf("Words(%+v, ..): word %d is %v, want %v", g, i, got[i], want)
		}
	}
}

func TestWordsRefuseWhatIsNoPage(t *testing.T) {
	refused := func(g api.Geo, p []complex128, want api.Errno) {
		t.Helper()
		if got, err := frame.Words(tables, g, p); err != want || len(got) != 0 {
			t.Errorf("Words(%+v, %d points) = %v, %v, want %v", g, len(p), got, err, want)
		}
	}
	for _, g := range never {
		for _, n := range []int{0, 107, 108, 109} {
			refused(g, make([]complex128, n), api.ErrArg)
		}
	}
	for _, g := range sizes {
		n := cellsOf(g)
		for _, many := range []int{0, 1, n - g.W, n - 1, n + 1, n + g.W, 2 * n} {
			refused(g, make([]complex128, n, 3*n)[:many], api.ErrSize)
			refused(g, fresh(make(list, many)), api.ErrSize)
		}
	}
}

func TestWordsOfWhatMakeMade(t *testing.T) {
	d := dice{31}
	for _, g := range sizes {
		s := made(t, g, d.mark(), d.bytes(sizeOf(g)))
		words(t, g, fresh(s), s, make([]int, g.W)...)
	}
}

func TestWordsAreReadEachByItself(t *testing.T) {
	d := dice{32}
	s := made(t, wide, heads[5], d.bytes(sizeOf(wide)))
	n := wide.K + parity
	for first := range wide.W {
		second, third := (first+1)%wide.W, (first+2)%wide.W
		p, want := fresh(s), make([]int, wide.W)
		wrong(wide, p, s, first, d.places(most+1, n), 6)
		places := d.places(most, n)
		wrong(wide, p, s, second, places[:5], 6)
		without(wide, p, second, places[5:])
		without(wide, p, third, d.places(most+1, n))
		want[first], want[second], want[third] = -1, most, -1
		words(t, wide, p, s, want...)
	}
}

func TestWordsOfPagesThatSayNothing(t *testing.T) {
	d := dice{33}
	for _, g := range sizes {
		unreadable := slices.Repeat([]int{-1}, g.W)
		words(t, g, make([]complex128, cellsOf(g)), make(list, cellsOf(g)), unreadable...)
		for _, said := range spoilt(g, heads[5], d.bytes(sizeOf(g))) {
			s := paged(g, said)
			p, want := fresh(s), make([]int, g.W)
			for w := range want {
				want[w] = w + 1
				wrong(g, p, s, w, d.places(w+1, g.K+parity), 6)
			}
			words(t, g, p, s, want...)
		}
	}
}

// What could be mended, but for its points at 0, is not read either, and tells nothing.
func TestWordsOfPointsAt0ThatAreNotWrong(t *testing.T) {
	g, _, _, s := middles(t)
	for n := range most + 3 {
		p := fresh(s)
		without(g, p, 0, upTo(head, head+n))
		if n > most {
			words(t, g, p, s, -1)
		} else {
			words(t, g, p, s, n)
		}
	}
}

func TestWordsWithTablesThatNobodyMade(t *testing.T) {
	s := made(t, wide, heads[5], make([]byte, sizeOf(wide)))
	p := fresh(s)
	wrong(wide, p, s, 1, upTo(2, 2+most), 6)
	got, err := frame.Words(field.Tables{}, wide, p)
	for i, row := range rowsOf(wide, s) {
		if err != api.OK || len(got) != wide.W || !slices.Equal(got[i].Symbols, row) {
			t.Fatalf("Words = %v, %v, want %v at %d", got, err, row, i)
		}
	}
}

func TestWordsAreNewMemory(t *testing.T) {
	d := dice{34}
	s := made(t, wide, heads[1], d.bytes(sizeOf(wide)))
	p := append(fresh(s), others...)
	wrong(wide, p, s, 0, d.places(most, wide.K+parity), 9)
	n, was := cellsOf(wide), slices.Clone(p)
	first, _ := frame.Words(tables, wide, p[:n])
	for i := range first {
		for at := range whole(first[i].Symbols) { // a word that hangs on the one ahead of it would be told by it
			whole(first[i].Symbols)[at] = uint16(i)
		}
	}
	for i := range first {
		if slices.ContainsFunc(first[i].Symbols, func(x uint16) bool { return x != uint16(i) }) {
			t.Errorf("word %d shares its symbols: %v", i, first[i].Symbols)
		}
	}
	if !like(p, was) {
		t.Error("the points were changed")
	}
	words(t, wide, p[:n], s, most, 0, 0)
}
