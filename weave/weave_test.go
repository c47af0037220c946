package weave_test

import (
	"math"
	"slices"
	"testing"

	"blackboard/api"
	"blackboard/weave"
)

// most is how many words can lie side by side at most.
const most = 4

// never are numbers of words that may not be.
var never = []int{0, -1, -2, -4, math.MinInt32, math.MinInt + 1, math.MinInt, most + 1, most + 2, 2 * most, 256 + 1, 1<<16 + 2, 1<<32 + 1, 1<<32 + 4, math.MaxInt - 1, math.MaxInt}

// dice throw what looks like any number, the same ones for the same seed.
type dice struct{ seed uint32 }

// below is a number from 0 to n - 1.
func (d *dice) below(n int) int {
	d.seed = d.seed*1664525 + 1013904223
	return int(d.seed>>8) % n
}

// symbols are n of them.
func (d *dice) symbols(n int) []uint16 {
	s := make([]uint16, n)
	for i := range s {
		s[i] = uint16(d.below(1024))
	}
	return s
}

// words are w of n symbols each.
func (d *dice) words(w, n int) [][]uint16 {
	l := make([][]uint16, w)
	for i := range l {
		l[i] = d.symbols(n)
	}
	return l
}

// woven goes round the words till the first is at its end, apart from what package weave does.
func woven(words [][]uint16) []uint16 {
	var s []uint16
	for at := range words[0] {
		for _, word := range words {
			s = append(s, word[at])
		}
	}
	return s
}

// dealt hands out the symbols to w words, each to the next one.
func dealt(w int, s []uint16) [][]uint16 {
	words := make([][]uint16, w)
	next := 0
	for _, x := range s {
		words[next] = append(words[next], x)
		next++
		if next == w {
			next = 0
		}
	}
	return words
}

// like tells whether a and b are the same words.
func like(a, b [][]uint16) bool {
	return slices.EqualFunc(a, b, slices.Equal[[]uint16])
}

// copied are the words, with their spare room, in memory of their own.
func copied(words [][]uint16) [][]uint16 {
	l := make([][]uint16, len(words))
	for i, word := range words {
		l[i] = slices.Clone(whole(word))
	}
	return l
}

// whole is l with its spare room.
func whole[T any](l []T) []T {
	return l[:cap(l)]
}

// weaves tells that the words are woven into want.
func weaves(t *testing.T, words [][]uint16, want ...uint16) {
	t.Helper()
	if got, err := weave.Out(len(words), words); err != api.OK || !slices.Equal(got, want) {
		t.Errorf("Out(%d, %v) = %v, %v, want %v", len(words), words, got, err, want)
	}
}

// deals tells that s is dealt out to the words of want.
func deals(t *testing.T, s []uint16, want ...[]uint16) {
	t.Helper()
	if got, err := weave.In(len(want), s); err != api.OK || !like(got, want) {
		t.Errorf("In(%d, %v) = %v, %v, want %v", len(want), s, got, err, want)
	}
}

// outRefused tells that Out answers an error, and nothing beside it.
func outRefused(t *testing.T, w int, words [][]uint16, want api.Errno) {
	t.Helper()
	if got, err := weave.Out(w, words); err != want || len(got) != 0 {
		t.Errorf("Out(%d, %v) = %v, %v, want %v", w, words, got, err, want)
	}
}

// inRefused tells that In answers an error, and nothing beside it.
func inRefused(t *testing.T, w int, s []uint16, want api.Errno) {
	t.Helper()
	if got, err := weave.In(w, s); err != want || len(got) != 0 {
		t.Errorf("In(%d, %v) = %v, %v, want %v", w, s, got, err, want)
	}
}

// P6.1: Out.

func TestOutTakesTheFirstOfEachThenTheSecond(t *testing.T) {
	weaves(t, [][]uint16{{1, 2}, {3, 4}}, 1, 3, 2, 4)
	weaves(t, [][]uint16{{1, 2, 3}, {4, 5, 6}}, 1, 4, 2, 5, 3, 6)
	weaves(t, [][]uint16{{1, 2}, {3, 4}, {5, 6}}, 1, 3, 5, 2, 4, 6)
	weaves(t, [][]uint16{{1, 2, 3}, {4, 5, 6}, {7, 8, 9}, {10, 11, 12}}, 1, 4, 7, 10, 2, 5, 8, 11, 3, 6, 9, 12)
}

func TestOutOfOneWordIsTheWord(t *testing.T) {
	weaves(t, [][]uint16{{7}}, 7)
	weaves(t, [][]uint16{{0, 0}}, 0, 0)
	weaves(t, [][]uint16{{9, 8, 7, 6, 5}}, 9, 8, 7, 6, 5)
	d := dice{1}
	for n := 1; n <= 200; n++ {
		word := d.symbols(n)
		weaves(t, [][]uint16{word}, word...)
	}
}

func TestOutOfWordsOfOneSymbolIsThemByNumber(t *testing.T) {
	weaves(t, [][]uint16{{5}, {3}}, 5, 3)
	weaves(t, [][]uint16{{5}, {3}, {9}}, 5, 3, 9)
	weaves(t, [][]uint16{{5}, {3}, {9}, {1}}, 5, 3, 9, 1)
}

func TestOutOfAnyWords(t *testing.T) {
	d := dice{2}
	for w := 1; w <= most; w++ {
		for n := 1; n <= 90; n++ {
			words := d.words(w, n)
			weaves(t, words, woven(words)...)
		}
		words := d.words(w, 1023)
		weaves(t, words, woven(words)...)
	}
}

func TestOutTakesAnyNumbersAsSymbols(t *testing.T) {
	weaves(t, [][]uint16{{1023, 1024}, {65535, 0}}, 1023, 65535, 1024, 0)
}

func TestOutTakesOneWordManyTimes(t *testing.T) {
	word := []uint16{4, 5}
	weaves(t, [][]uint16{word, word, word}, 4, 4, 4, 5, 5, 5)
}

func TestOutRefusesNumbersOfWordsThatMayNotBe(t *testing.T) {
	d := dice{3}
	for _, w := range never {
		for many := range 7 {
			outRefused(t, w, d.words(many, 3), api.ErrArg)
		}
		outRefused(t, w, nil, api.ErrArg)
	}
	// As many as are told, but too many.
	for many := most + 1; many <= 20; many++ {
		outRefused(t, many, d.words(many, 3), api.ErrArg)
	}
	outRefused(t, 0, [][]uint16{}, api.ErrArg)
}

func TestOutRefusesFewerAndMoreWordsThanAreTold(t *testing.T) {
	d := dice{4}
	for w := 1; w <= most; w++ {
		for many := range 10 {
			if many != w {
				outRefused(t, w, d.words(many, 3), api.ErrArg)
			}
		}
		outRefused(t, w, nil, api.ErrArg)
		outRefused(t, w, make([][]uint16, w-1, 8), api.ErrArg) // spare room holds no words
	}
}

func TestOutRefusesWordsWithoutSymbols(t *testing.T) {
	for w := 1; w <= most; w++ {
		outRefused(t, w, make([][]uint16, w), api.ErrSize)
		empty := make([][]uint16, w)
		for i := range empty {
			empty[i] = make([]uint16, 0, 5)
		}
		outRefused(t, w, empty, api.ErrSize)
	}
}

func TestOutRefusesWordsOfUnlikeLengths(t *testing.T) {
	d := dice{5}
	for w := 2; w <= most; w++ {
		for n := range 5 {
			for at := range w { // the first, the last, and those between
				for other := range 8 {
					if other == n {
						continue
					}
					words := d.words(w, n)
					words[at] = d.symbols(other)
					outRefused(t, w, words, api.ErrSize)
				}
			}
		}
	}
	// As many symbols in all as words of like lengths would have.
	outRefused(t, 2, [][]uint16{{1, 2, 3}, {4}}, api.ErrSize)
	outRefused(t, 3, [][]uint16{{1, 2}, {3}, {4, 5, 6}}, api.ErrSize)
	outRefused(t, 4, [][]uint16{{1, 2}, nil, {3, 4}, {5, 6, 7, 8}}, api.ErrSize)
	// The last ones end alike in memory, not in length.
	outRefused(t, 2, [][]uint16{{1, 2}, make([]uint16, 1, 2)}, api.ErrSize)
}

func TestOutTellsAWrongNumberAheadOfUnlikeLengths(t *testing.T) {
	wrong := [][]uint16{{1, 2}, {3}, nil}
	for _, w := range append([]int{1, 2, 4}, never...) {
		outRefused(t, w, wrong, api.ErrArg)
		outRefused(t, w, make([][]uint16, 3), api.ErrArg)
	}
	outRefused(t, 5, [][]uint16{{1}, {2}, {3}, {4}, {5, 6}}, api.ErrArg)
	outRefused(t, 3, wrong, api.ErrSize)
}

// P6.1: In.

func TestInDealsOutRoundTheWords(t *testing.T) {
	deals(t, []uint16{1, 3, 2, 4}, []uint16{1, 2}, []uint16{3, 4})
	deals(t, []uint16{1, 2, 3, 4, 5, 6}, []uint16{1, 3, 5}, []uint16{2, 4, 6})
	deals(t, []uint16{1, 2, 3, 4, 5, 6}, []uint16{1, 4}, []uint16{2, 5}, []uint16{3, 6})
	deals(t, []uint16{1, 2, 3, 4, 5, 6, 7, 8}, []uint16{1, 5}, []uint16{2, 6}, []uint16{3, 7}, []uint16{4, 8})
}

func TestInOfOneWordIsTheRow(t *testing.T) {
	d := dice{6}
	for n := 1; n <= 200; n++ {
		s := d.symbols(n)
		deals(t, s, s)
	}
}

func TestInOfARowOfOneRound(t *testing.T) {
	deals(t, []uint16{5}, []uint16{5})
	deals(t, []uint16{5, 3}, []uint16{5}, []uint16{3})
	deals(t, []uint16{5, 3, 9}, []uint16{5}, []uint16{3}, []uint16{9})
	deals(t, []uint16{5, 3, 9, 1}, []uint16{5}, []uint16{3}, []uint16{9}, []uint16{1})
}

func TestInOfAnyRow(t *testing.T) {
	d := dice{7}
	for w := 1; w <= most; w++ {
		for n := w; n <= 90*w; n += w {
			s := d.symbols(n)
			deals(t, s, dealt(w, s)...)
		}
	}
}

func TestInTakesAnyNumbersAsSymbols(t *testing.T) {
	deals(t, []uint16{1023, 1024, 65535, 0}, []uint16{1023, 65535}, []uint16{1024, 0})
}

func TestInRefusesNumbersOfWordsThatMayNotBe(t *testing.T) {
	d := dice{8}
	for _, w := range never {
		for n := range 25 { // also rows that are no multiple, or have no symbol
			inRefused(t, w, d.symbols(n), api.ErrArg)
		}
		inRefused(t, w, nil, api.ErrArg)
	}
}

func TestInRefusesRowsThatAreNoMultiple(t *testing.T) {
	d := dice{9}
	for w := 1; w <= most; w++ {
		for n := range 100 {
			s := d.symbols(n)
			if n%w != 0 {
				inRefused(t, w, s, api.ErrSize)
			} else if n > 0 {
				deals(t, s, dealt(w, s)...)
			}
		}
		inRefused(t, w, make([]uint16, w-1, 3*w), api.ErrSize) // spare room holds no symbols
	}
}

func TestInRefusesARowWithoutSymbols(t *testing.T) {
	for w := 1; w <= most; w++ {
		inRefused(t, w, nil, api.ErrSize)
		inRefused(t, w, []uint16{}, api.ErrSize)
		inRefused(t, w, make([]uint16, 0, w), api.ErrSize)
	}
}

// P6.1: both.

func TestWhatWasWovenIsDealtOut(t *testing.T) {
	d := dice{10}
	for w := 1; w <= most; w++ {
		for _, n := range []int{1, 2, 3, 4, 5, 17, 80, 1023, 4096} {
			words := d.words(w, n)
			s, err := weave.Out(w, words)
			if err != api.OK || len(s) != w*n {
				t.Fatalf("Out of %d words of %d: %d symbols, %v", w, n, len(s), err)
			}
			deals(t, s, words...)
		}
	}
}

func TestWhatWasDealtOutIsWoven(t *testing.T) {
	d := dice{11}
	for w := 1; w <= most; w++ {
		for _, n := range []int{1, 2, 3, 4, 5, 17, 80, 1023, 4096} {
			s := d.symbols(w * n)
			words, err := weave.In(w, s)
			if err != api.OK || len(words) != w {
				t.Fatalf("In of %d words of %d: %d words, %v", w, n, len(words), err)
			}
			weaves(t, words, s...)
		}
	}
}

// P6.1: Burst.

func TestBurstOfAFew(t *testing.T) {
	for _, c := range []struct{ w, from, n, want int }{
		{1, 0, 5, 5}, {1, 7, 5, 5}, {2, 0, 5, 3}, {2, 1, 5, 3}, {3, 2, 4, 2}, {4, 0, 32, 8}, {4, 3, 33, 9}, {4, 1, 2, 1},
		{1, 0, 0, 0}, {4, 9, 0, 0},
	} {
		if got := weave.Burst(c.w, c.from, c.n); got != c.want {
			t.Errorf("Burst(%d, %d, %d) = %d, want %d", c.w, c.from, c.n, got, c.want)
		}
	}
}

// counted goes through the places one by one, and tells how many symbols the word has that has most of them.
func counted(w, from, n int) int {
	var of [most]int
	for i := from; i < from+n; i++ {
		of[i%w]++
	}
	return slices.Max(of[:])
}

func TestBurstIsWhatOneWordHasAtMost(t *testing.T) {
	for w := 1; w <= most; w++ {
		for from := range 50 {
			for n := range 70 { // 0, w and one more among them
				if got, want := weave.Burst(w, from, n), counted(w, from, n); got != want {
					t.Errorf("Burst(%d, %d, %d) = %d, want %d", w, from, n, got, want)
				}
			}
		}
	}
}

func TestBurstIsWhatInDealsOutToOneWord(t *testing.T) {
	for w := 1; w <= most; w++ {
		for from := range 3 * w {
			for n := range 5 * w {
				s := make([]uint16, 10*w)
				for i := range n {
					s[from+i] = 1
				}
				words, _ := weave.In(w, s)
				want := 0
				for _, word := range words {
					hit := 0
					for _, x := range word {
						hit += int(x)
					}
					want = max(want, hit)
				}
				if got := weave.Burst(w, from, n); got != want {
					t.Errorf("Burst(%d, %d, %d) = %d, want %d", w, from, n, got, want)
				}
			}
		}
	}
}

func TestBurstOfARoundIsOneAndOneMoreIsTwo(t *testing.T) {
	for w := 1; w <= most; w++ {
		for _, from := range []int{0, 1, 2, 3, 4, 5, 1 << 20, math.MaxInt - 1, math.MaxInt} {
			for n, want := range map[int]int{0: 0, 1: 1, w: 1, w + 1: 2, 2 * w: 2, 2*w + 1: 3} {
				if got := weave.Burst(w, from, n); got != want {
					t.Errorf("Burst(%d, %d, %d) = %d, want %d", w, from, n, got, want)
				}
			}
		}
	}
}

func TestBurstOfVeryManySymbols(t *testing.T) {
	for _, from := range []int{0, 1, 2, 3, 1 << 40, math.MaxInt - 1, math.MaxInt} {
		for _, c := range []struct{ w, n, want int }{
			{1, math.MaxInt, math.MaxInt}, {1, math.MaxInt - 1, math.MaxInt - 1},
			{2, math.MaxInt, 1 << 62}, {2, math.MaxInt - 1, 1<<62 - 1},
			{3, math.MaxInt, 3074457345618258603}, {3, math.MaxInt - 1, 3074457345618258602}, {3, math.MaxInt - 2, 3074457345618258602},
			{4, math.MaxInt, 1 << 61}, {4, math.MaxInt - 2, 1 << 61}, {4, math.MaxInt - 3, 1<<61 - 1},
			{3, math.MaxInt32, 715827883}, {4, math.MaxInt32, 1 << 29},
		} {
			if got := weave.Burst(c.w, from, c.n); got != c.want {
				t.Errorf("Burst(%d, %d, %d) = %d, want %d", c.w, from, c.n, got, c.want)
			}
		}
	}
}

func TestBurstOfWhatMayNotBeIsNought(t *testing.T) {
	below := []int{-1, -2, -3, -4, -5, -1024, math.MinInt32, math.MinInt + 1, math.MinInt}
	some := []int{0, 1, 4, 5, 1000, math.MaxInt}
	none := func(w, from, n int) {
		t.Helper()
		if got := weave.Burst(w, from, n); got != 0 {
			t.Errorf("Burst(%d, %d, %d) = %d, want 0", w, from, n, got)
		}
	}
	for _, x := range append(slices.Clone(some), below...) {
		for _, wrong := range below {
			for w := 1; w <= most; w++ {
				none(w, x, wrong)
				none(w, wrong, x)
			}
		}
		for _, w := range never {
			for _, y := range append(slices.Clone(some), below...) {
				none(w, x, y)
			}
		}
	}
}

// P6.1 and the rules that hold everywhere.

// roomy are words with spare room, w of n symbols each, in a list with spare room.
func (d *dice) roomy(w, n int) [][]uint16 {
	l := d.words(w+3, n+5)
	for i := range l {
		l[i] = l[i][:n]
	}
	return l[:w]
}

func TestListsHandedInAreNotChanged(t *testing.T) {
	d := dice{12}
	for w := 1; w <= most; w++ {
		for n := range 20 {
			words, s := d.roomy(w, n), d.symbols(w*n + 9)[:w*n]
			wordsWere, sWere := copied(whole(words)), slices.Clone(whole(s))
			row, _ := weave.Out(w, words)
			rows, _ := weave.In(w, s)
			for i := range whole(row) { // nor by what becomes of the answers
				whole(row)[i] ^= 77
			}
			for i := range whole(rows) {
				for j := range whole(whole(rows)[i]) {
					whole(whole(rows)[i])[j] ^= 77
				}
				whole(rows)[i] = nil
			}
			weave.Out(w+1, words) // nor where they are refused
			weave.In(w+1, s)
			weave.In(0, s)
			for i, word := range whole(words) {
				if len(word) != n || cap(word) != len(wordsWere[i]) {
					t.Fatalf("word %d of %d has another length behind it", i, w)
				}
			}
			if !like(copied(whole(words)), wordsWere) || !slices.Equal(whole(s), sWere) {
				t.Errorf("a list of %d words of %d is another one behind it", w, n)
			}
		}
	}
}

func TestAnswersAreNewAndHangOnTheArgumentsAlone(t *testing.T) {
	d := dice{13}
	for w := 1; w <= most; w++ {
		for n := 1; n < 20; n++ {
			words, s := d.words(w, n), d.symbols(w*n)
			wantRow, wantRows := woven(words), dealt(w, s)
			row, _ := weave.Out(w, words)
			rows, _ := weave.In(w, s)
			// What is done to an answer shows in no later one.
			clear(whole(row))
			for _, word := range whole(rows) {
				clear(whole(word))
			}
			clear(whole(rows))
			weaves(t, words, wantRow...)
			deals(t, s, wantRows...)
			// What is done to the arguments, or asked of others, shows in no earlier one.
			row, _ = weave.Out(w, words)
			rows, _ = weave.In(w, s)
			weave.Out(w, d.words(w, n))
			weave.In(w, d.symbols(w*n))
			for _, word := range words {
				clear(word)
			}
			clear(words)
			clear(s)
			if !slices.Equal(row, wantRow) || !like(rows, wantRows) {
				t.Errorf("an answer about %d words of %d changed behind it", w, n)
			}
		}
	}
}

func TestWordsDealtOutShareNothing(t *testing.T) {
	d := dice{14}
	for w := 1; w <= most; w++ {
		for n := 1; n < 20; n++ {
			s := d.symbols(w * n)
			rows, _ := weave.In(w, s)
			want := dealt(w, s)
			for i := range rows {
				// What was done to the words ahead, spare room too, does not show in this one.
				if !slices.Equal(rows[i], want[i]) {
					t.Fatalf("In of %d words of %d: word %d shares with one ahead of it", w, n, i)
				}
				for j := range whole(rows[i]) {
					whole(rows[i])[j] = 9999
				}
				rows[i] = append(rows[i], 9999)
			}
		}
	}
}
