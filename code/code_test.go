package code_test

import (
	"slices"
	"testing"

	"blackboard/api"
	"blackboard/code"
	"blackboard/field"
)

// list is short for a word's symbols.
type list = []uint16

// both are tables that were made, and tables that nobody made: all that is promised holds for either.
var both = []struct {
	name string
	t    field.Tables
}{
	{"made", field.Make()},
	{"zero", field.Tables{}},
}

// dice throw what looks like any number, the same ones for the same seed.
type dice struct{ seed uint32 }

// below is a number from 0 to n - 1.
func (d *dice) below(n int) int {
	d.seed = d.seed*1664525 + 1013904223
	return int(d.seed>>8) % n
}

// some tells n symbols, about one in eight nought.
func (d *dice) some(n int) list {
	l := make(list, n)
	for i := range l {
		if d.below(8) > 0 {
			l[i] = uint16(d.below(1024))
		}
	}
	return l
}

// spoil is word with n places wrong from place from on, anywhere.
func (d *dice) spoil(word list, from, n int) list {
	l := slices.Clone(word)
	for n > 0 {
		i := from + d.below(len(l)-from)
		if l[i] == word[i] {
			l[i] ^= uint16(1 + d.below(1023))
			n--
		}
	}
	return l
}

// times multiplies a and b, bit by bit, apart from what package field does.
func times(a, b uint16) uint16 {
	p := uint32(0)
	for i := range 10 {
		if b>>i&1 != 0 {
			p ^= uint32(a) << i
		}
	}
	for i := 19; i >= 10; i-- {
		if p>>i&1 != 0 {
			p ^= (1<<10 | 1<<3 | 1) << (i - 10)
		}
	}
	return uint16(p)
}

// power is x to the n, for n from 0 on.
func power(n int) uint16 {
	p := uint16(1)
	for range n {
		p = times(p, 2)
	}
	return p
}

// values are those of word at x to the 1 up to x to the 16, each power of x reckoned and summed up by itself.
func values(word list) list {
	l := make(list, 16)
	for i := range l {
		x, at := power(i+1), uint16(1)
		for j := len(word) - 1; j >= 0; j-- {
			l[i] ^= times(word[j]%1024, at)
			at = times(at, x)
		}
	}
	return l
}

// multiple tells whether word is nought where Generator is: all of these places are single roots.
func multiple(word list) bool {
	return slices.Equal(values(word), make(list, 16))
}

// unlike counts the places in which two lists of one length differ.
func unlike(a, b list) int {
	n := 0
	for i := range a {
		if a[i] != b[i] {
			n++
		}
	}
	return n
}

// encoded is a word of n symbols.
func encoded(t *testing.T, d *dice, n int) list {
	t.Helper()
	word, err := code.Encode(both[0].t, d.some(n-16))
	if err != api.OK || len(word) != n || !multiple(word) {
		t.Fatalf("no word of %d symbols: %d, %v", n, len(word), err)
	}
	return word
}

// sizes are lengths of words: the shortest, the longest, and some between.
var sizes = []int{17, 18, 19, 24, 25, 32, 33, 40, 80, 255, 256, 511, 1000, 1022, 1023}

// product of (x + x to the i), i from 1 to 16: the factor of x^0 ahead.
func product() list {
	p := list{1}
	for i := 1; i <= 16; i++ {
		q := make(list, len(p)+1)
		for j, f := range p {
			q[j] ^= times(f, power(i))
			q[j+1] ^= f
		}
		p = q
	}
	return p
}

// multiples are all words of 17 symbols: Generator, the factor of the highest power ahead, times each symbol.
func multiples() []list {
	g := product()
	slices.Reverse(g)
	var all []list
	for s := range uint16(1024) {
		word := make(list, 17)
		for i, f := range g {
			word[i] = times(f, s)
		}
		all = append(all, word)
	}
	return all
}

// P4.1: Generator.

func TestGeneratorIsTheProduct(t *testing.T) {
	want := product()
	if len(want) != 17 || want[16] != 1 {
		t.Fatalf("the product is %v", want)
	}
	for _, k := range both {
		if got := code.Generator(k.t); !slices.Equal(got, want) {
			t.Errorf("%s: Generator = %v, want %v", k.name, got, want)
		}
	}
}

func TestGeneratorIsNewMemory(t *testing.T) {
	g := code.Generator(both[0].t)
	for i := range g[:cap(g)] {
		g[:cap(g)][i] = 77
	}
	if got := code.Generator(both[0].t); !slices.Equal(got, product()) {
		t.Errorf("Generator changes with what it answered: %v", got)
	}
}

// P4.1: Encode.

func TestEncodeMakesAMultipleOfGenerator(t *testing.T) {
	for _, k := range both {
		d := dice{1}
		for _, n := range sizes {
			ones := slices.Repeat(list{1023}, n-16)
			for _, data := range []list{make(list, n-16), ones, d.some(n - 16), d.some(n - 16)} {
				word, err := code.Encode(k.t, data)
				if err != api.OK || len(word) != n || !slices.Equal(word[:n-16], data) || !multiple(word) {
					t.Errorf("%s: Encode(%v) = %v, %v", k.name, data, word, err)
				}
			}
		}
	}
}

func TestEncodeOfOneSymbolIsGenerator(t *testing.T) {
	all := multiples()
	for _, k := range both {
		for _, s := range []uint16{0, 1, 2, 700, 1023} {
			if got, err := code.Encode(k.t, list{s}); err != api.OK || !slices.Equal(got, all[s]) {
				t.Errorf("%s: Encode(%d) = %v, %v, want %v", k.name, s, got, err, all[s])
			}
		}
	}
}

func TestEncodeOfNoughtsIsNoughts(t *testing.T) {
	for _, k := range both {
		for _, n := range []int{1, 9, 1007} {
			if got, err := code.Encode(k.t, make(list, n)); err != api.OK || !slices.Equal(got, make(list, n+16)) {
				t.Errorf("%s: Encode of %d noughts = %v, %v", k.name, n, got, err)
			}
		}
	}
}

func TestEncodeRefusesSizes(t *testing.T) {
	for _, k := range both {
		// ErrSize is named ahead of ErrArg.
		for _, s := range []uint16{0, 5, 1023, 1024, 65535} {
			for _, n := range []int{0, 1008, 1009, 1023, 1024, 100000} {
				if got, err := code.Encode(k.t, slices.Repeat(list{s}, n)); len(got) != 0 || err != api.ErrSize {
					t.Errorf("%s: Encode of %d times %d = %d symbols, %v, want none, ErrSize", k.name, n, s, len(got), err)
				}
			}
		}
		if got, err := code.Encode(k.t, nil); len(got) != 0 || err != api.ErrSize {
			t.Errorf("%s: Encode of none = %v, %v, want none, ErrSize", k.name, got, err)
		}
	}
}

func TestEncodeRefusesWhatIsNoSymbol(t *testing.T) {
	for _, k := range both {
		for _, n := range []int{1, 2, 9, 1006, 1007} {
			for _, i := range []int{0, n / 2, n - 1} {
				for _, s := range []uint16{1024, 1025, 2048, 32768, 65535} {
					data := make(list, n)
					data[i] = s
					if got, err := code.Encode(k.t, data); len(got) != 0 || err != api.ErrArg {
						t.Errorf("%s: Encode of %d with %d at %d = %d symbols, %v, want none, ErrArg", k.name, n, s, i, len(got), err)
					}
				}
			}
		}
	}
}

// P4.1: Syndromes.

func TestSyndromesAreTheValues(t *testing.T) {
	for _, k := range both {
		d := dice{2}
		for _, n := range []int{0, 1, 2, 3, 15, 16, 17, 18, 100, 1022, 1023, 1024, 1025, 3000} {
			for range 3 {
				word := d.some(n)
				if got, want := code.Syndromes(k.t, word), values(word); !slices.Equal(got, want) {
					t.Errorf("%s: Syndromes of %d symbols = %v, want %v", k.name, n, got, want)
				}
			}
		}
	}
}

func TestSyndromesOfSingleSymbols(t *testing.T) {
	for _, k := range both {
		one, exps, squares := slices.Repeat(list{1}, 16), make(list, 16), make(list, 16)
		for i := range exps {
			exps[i], squares[i] = power(i+1), power(2*i+2)
		}
		for _, c := range []struct{ word, want list }{
			{nil, make(list, 16)}, {list{}, make(list, 16)}, {list{0}, make(list, 16)}, {list{0, 0, 0}, make(list, 16)},
			{list{1}, one}, {list{0, 0, 1}, one}, {list{1, 0}, exps}, {list{0, 1, 0}, exps}, {list{1, 0, 0}, squares},
			{list{7}, slices.Repeat(list{7}, 16)},
			// Numbers may be any: taken modulo 1024, as polynomials take them.
			{list{1025}, one}, {list{1024, 2049, 64512}, exps}, {list{65535}, slices.Repeat(list{1023}, 16)},
		} {
			if got := code.Syndromes(k.t, c.word); !slices.Equal(got, c.want) {
				t.Errorf("%s: Syndromes(%v) = %v, want %v", k.name, c.word, got, c.want)
			}
		}
	}
}

func TestSyndromesOfAWordAreSixteenNoughts(t *testing.T) {
	for _, k := range both {
		d := dice{3}
		for _, n := range sizes {
			if got := code.Syndromes(k.t, encoded(t, &d, n)); !slices.Equal(got, make(list, 16)) {
				t.Errorf("%s: Syndromes of a word of %d = %v", k.name, n, got)
			}
		}
	}
}

// P4.1: Distance.

func TestDistanceCountsPlaces(t *testing.T) {
	for _, c := range []struct {
		a, b list
		want int
	}{
		{nil, nil, 0}, {nil, list{}, 0}, {list{1}, list{1}, 0}, {list{1}, list{2}, 1}, {list{1, 2, 3}, list{1, 2, 3}, 0},
		{list{1, 2, 3}, list{1, 5, 3}, 1}, {list{1, 2, 3}, list{2, 3, 1}, 3}, {list{5, 2, 3}, list{1, 2, 3}, 1}, {list{1, 2, 5}, list{1, 2, 3}, 1},
		// The longer one's other places, noughts too.
		{nil, list{0}, 1}, {list{0, 0}, nil, 2}, {list{1, 2}, list{1, 2, 0, 0}, 2}, {list{1, 2, 3}, list{1}, 2}, {list{1, 2, 3}, list{4}, 3},
		{list{1}, list{4, 4, 4, 4}, 4},
		{list{0}, list{1024}, 1}, {list{65535}, list{65535}, 0},
	} {
		if got := code.Distance(c.a, c.b); got != c.want {
			t.Errorf("Distance(%v, %v) = %d, want %d", c.a, c.b, got, c.want)
		}
		if got := code.Distance(c.b, c.a); got != c.want {
			t.Errorf("Distance(%v, %v) = %d, want %d", c.b, c.a, got, c.want)
		}
	}
	d := dice{4}
	for n := range 50 {
		a := d.some(n + 20)
		if got := code.Distance(a, d.spoil(a, 0, n/3)); got != n/3 {
			t.Errorf("Distance of %d wrong = %d", n/3, got)
		}
		if got := code.Distance(d.spoil(a, 0, n/3), append(slices.Clone(a), d.some(n)...)); got != n/3+n {
			t.Errorf("Distance of %d wrong and %d more = %d", n/3, n, got)
		}
	}
}

// P4.2: Decode.

// mends asks that word is decoded to want.
func mends(t *testing.T, k field.Tables, word, want list) {
	t.Helper()
	got, n, err := code.Decode(k, word)
	if err != api.OK || n != unlike(word, want) || !slices.Equal(got, want) {
		t.Fatalf("Decode(%v) = %v, %d, %v, want %v, %d, OK", word, got, n, err, want, unlike(word, want))
	}
}

// fails asks that word can't be decoded, for that reason.
func fails(t *testing.T, k field.Tables, word list, want api.Errno) {
	t.Helper()
	if got, n, err := code.Decode(k, word); len(got) != 0 || n != 0 || err != want {
		t.Fatalf("Decode(%v) = %v, %d, %v, want none, 0, %v", word, got, n, err, want)
	}
}

func TestDecodeOfAWordIsTheWord(t *testing.T) {
	for _, k := range both {
		d := dice{5}
		for _, n := range sizes {
			mends(t, k.t, make(list, n), make(list, n))
			for range 3 {
				word := encoded(t, &d, n)
				mends(t, k.t, word, word)
			}
		}
	}
}

func TestDecodeMendsOneAtEachPlace(t *testing.T) {
	for _, k := range both {
		d := dice{6}
		for _, n := range []int{17, 18, 40, 80, 1023} {
			word := encoded(t, &d, n)
			step := 1
			if n > 80 && k.name == "zero" {
				step = 101
			}
			for i := 0; i < n; i += step {
				wrong := slices.Clone(word)
				wrong[i] ^= uint16(1 + d.below(1023))
				mends(t, k.t, wrong, word)
			}
		}
	}
}

func TestDecodeMendsUpToEight(t *testing.T) {
	for _, k := range both {
		d := dice{7}
		for _, n := range sizes {
			for wrong := 1; wrong <= 8; wrong++ {
				for range 5 {
					word := encoded(t, &d, n)
					mends(t, k.t, d.spoil(word, 0, wrong), word)
				}
			}
		}
	}
}

func TestDecodeMendsEightInARow(t *testing.T) {
	k, d := both[0].t, dice{8}
	for _, n := range sizes {
		word := encoded(t, &d, n)
		for wrong := 1; wrong <= 8; wrong++ {
			for _, from := range []int{0, 1, n/2 - 4, n - 17, n - 16, n - wrong} {
				// The same symbol, the greatest, and 1 at each of them.
				for _, by := range []uint16{1, 512, 1023} {
					l := slices.Clone(word)
					for i := range min(wrong, n-from) {
						l[from+i] ^= by
					}
					mends(t, k, l, word)
				}
			}
		}
	}
}

func TestDecodeMendsPlacesAsFarApartAsTheyCanBe(t *testing.T) {
	k, d := both[0].t, dice{9}
	for _, n := range sizes {
		word := encoded(t, &d, n)
		l := slices.Clone(word)
		for i := range 8 {
			l[i*(n-1)/7] ^= uint16(1 + d.below(1023))
		}
		mends(t, k, l, word)
	}
}

func TestDecodeMendsAnyWrongSymbol(t *testing.T) {
	k, d := both[0].t, dice{10}
	word := encoded(t, &d, 24)
	for by := uint16(1); by < 1024; by++ {
		l := d.spoil(word, 1, d.below(8))
		l[0] ^= by
		mends(t, k, l, word)
	}
}

func TestDecodeRefusesSizes(t *testing.T) {
	for _, k := range both {
		// ErrSize is named ahead of ErrArg.
		for _, s := range []uint16{0, 5, 1023, 1024, 65535} {
			for _, n := range []int{0, 1, 8, 15, 16, 1024, 1025, 2046, 100000} {
				fails(t, k.t, slices.Repeat(list{s}, n), api.ErrSize)
			}
		}
		fails(t, k.t, nil, api.ErrSize)
		mends(t, k.t, make(list, 17), make(list, 17))
		mends(t, k.t, make(list, 1023), make(list, 1023))
	}
}

func TestDecodeRefusesWhatIsNoSymbol(t *testing.T) {
	for _, k := range both {
		for _, n := range []int{17, 18, 80, 1022, 1023} {
			for _, i := range []int{0, n / 2, n - 17, n - 1} {
				for _, s := range []uint16{1024, 1025, 2048, 32768, 65535} {
					// Modulo 1024 it would be a word, or one with few wrong.
					word := make(list, n)
					word[i] = s
					fails(t, k.t, word, api.ErrArg)
				}
			}
		}
	}
}

// nearest looks through all words of 17 symbols for one that is unlike in at most 8 places.
func nearest(all []list, word list) list {
	for _, w := range all {
		if unlike(w, word) <= 8 {
			return w
		}
	}
	return nil
}

func TestDecodeOfSeventeenSymbolsIsTheOnlyNearOne(t *testing.T) {
	k, all, d := both[0].t, multiples(), dice{11}
	none := 0
	for n := range 1500 {
		// Places of one word, places of another, and some of neither.
		word := slices.Clone(all[d.below(1024)])
		other := all[d.below(1024)]
		for i := range d.below(18) {
			word[(i*5+n)%17] = other[(i*5+n)%17]
		}
		word = d.spoil(word, 0, d.below(4))
		if want := nearest(all, word); want != nil {
			mends(t, k, word, want)
		} else {
			fails(t, k, word, api.ErrData)
			none++
		}
	}
	if none < 100 || none > 1400 {
		t.Errorf("%d of 1500 have none near", none)
	}
}

func TestDecodeOfNineWrongIsOneThatIsNearer(t *testing.T) {
	// Nine of Generator's seventeen symbols are wrong: noughts are nine away, and what it makes eight.
	d := dice{12}
	for _, k := range both {
		for _, n := range sizes {
			from := d.below(n - 16)
			other := make(list, n)
			for i, f := range product() {
				other[from+16-i] = times(f, 700)
			}
			word := encoded(t, &d, n)
			for i := range other {
				other[i] ^= word[i]
			}
			nine, eight := slices.Clone(word), slices.Clone(word)
			for i := range 9 {
				nine[from+2*i] = other[from+2*i]
			}
			for i := range 8 {
				eight[from+2*i] = other[from+2*i]
			}
			mends(t, k.t, nine, other)
			mends(t, k.t, eight, word)
			// One more, like in neither: nine from this one and from that one.
			eight[from+16] ^= 1
			if eight[from+16] == other[from+16] {
				eight[from+16] ^= 2
			}
			got, _, err := code.Decode(k.t, eight)
			if slices.Equal(got, word) || slices.Equal(got, other) || err == api.OK && unlike(got, eight) > 8 {
				t.Errorf("%s: of %d symbols, nine from two words: %v, %v", k.name, n, got, err)
			}
		}
	}
}

func TestDecodeFindsNoPlaceThatTheWordLacks(t *testing.T) {
	// What was cut off is wrong, too: no other word can be near, as that one, with noughts ahead, would be nearer than 17 to the long one.
	for _, k := range both {
		d := dice{13}
		for _, n := range []int{17, 18, 40, 80, 500, 1015} {
			for wrong := range 8 {
				for ahead := 1; ahead <= 8-wrong; ahead++ {
					data := make(list, n-16+ahead)
					for i := range data {
						data[i] = uint16(1 + d.below(1023))
					}
					word, err := code.Encode(k.t, data)
					if err != api.OK {
						t.Fatal(err)
					}
					fails(t, k.t, d.spoil(word, ahead, wrong)[ahead:], api.ErrData)
				}
			}
		}
	}
	// One far ahead of it.
	word := make(list, 1023)
	for _, i := range []int{0, 1, 500, 942} {
		word[i] = 1
		encodedWord, _ := code.Encode(both[0].t, word[:1007])
		word[i] = 0
		fails(t, both[0].t, encodedWord[943:], api.ErrData)
	}
}

func TestDecodeOfMoreWrong(t *testing.T) {
	for _, k := range both {
		d := dice{14}
		for _, n := range []int{17, 18, 20, 40, 80, 300, 1023} {
			for wrong := 9; wrong <= 17; wrong++ {
				for range 4 {
					word := encoded(t, &d, n)
					spoilt := d.spoil(word, 0, wrong)
					got, far, err := code.Decode(k.t, spoilt)
					ok := err == api.OK && len(got) == n && multiple(got) && far == unlike(got, spoilt) && far <= 8
					none := err == api.ErrData && len(got) == 0 && far == 0
					if !ok && !none {
						t.Fatalf("%s: Decode of %d symbols, %d wrong: %v, %d, %v", k.name, n, wrong, got, far, err)
					}
				}
			}
		}
	}
}

func TestDecodeOfAnything(t *testing.T) {
	k, d := both[0].t, dice{15}
	for i := range 3000 {
		word := d.some(17 + d.below(60))
		switch i % 4 {
		case 1: // few that are not nought
			word = d.spoil(make(list, len(word)), 0, 1+d.below(17))
		case 2: // one symbol all over
			word = slices.Repeat(word[:1], len(word))
		}
		got, far, err := code.Decode(k, word)
		ok := err == api.OK && len(got) == len(word) && multiple(got) && far == unlike(got, word) && far <= 8
		none := err == api.ErrData && len(got) == 0 && far == 0
		if !ok && !none {
			t.Fatalf("Decode(%v) = %v, %d, %v", word, got, far, err)
		}
	}
}

// All of P4.1 and P4.2, and the rules that hold everywhere.

// whole is p with its spare room.
func whole(p list) list {
	return p[:cap(p)]
}

// inputs are words of all sorts: right ones, spoilt ones, beyond mending, refused, each with spare room in which something stands.
func inputs(t *testing.T) []list {
	d := dice{16}
	var l []list
	for _, n := range []int{0, 1, 16, 17, 20, 80, 1007, 1008, 1023, 1024} {
		l = append(l, d.some(n + 8)[:n])
		if n < 17 || n > 1023 {
			continue
		}
		word := encoded(t, &d, n)
		for _, wrong := range []int{0, 1, 8, 9} {
			l = append(l, append(d.spoil(word, 0, wrong), d.some(8)...)[:n])
		}
		l = append(l, slices.Repeat(list{2000}, n+8)[:n])
	}
	return l
}

func TestListsHandedInAreNotChanged(t *testing.T) {
	k := both[0].t
	for _, p := range inputs(t) {
		was := slices.Clone(whole(p))
		encodedWord, _ := code.Encode(k, p)
		decoded, _, _ := code.Decode(k, p)
		syndromes := code.Syndromes(k, p)
		code.Distance(p, whole(p))
		for _, got := range []list{encodedWord, decoded, syndromes} {
			for i := range whole(got) { // nor by what becomes of the answer
				whole(got)[i] ^= 77
			}
		}
		if !slices.Equal(whole(p), was) {
			t.Errorf("a list of %d symbols is another one behind it", len(p))
		}
	}
}

func TestAnswersHangOnTheArgumentsAlone(t *testing.T) {
	for _, p := range inputs(t) {
		copied := slices.Clone(p)
		for _, k := range both {
			first, err := code.Encode(k.t, p)
			again, errAgain := code.Encode(field.Make(), copied)
			if err != errAgain || !slices.Equal(first, again) {
				t.Errorf("%s: Encode of %d symbols: two answers", k.name, len(p))
			}
			word, n, err := code.Decode(k.t, p)
			wordAgain, nAgain, errAgain := code.Decode(field.Make(), copied)
			if err != errAgain || n != nAgain || !slices.Equal(word, wordAgain) {
				t.Errorf("%s: Decode of %d symbols: two answers", k.name, len(p))
			}
		}
	}
}
