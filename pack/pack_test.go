package pack_test

import (
	"math"
	"slices"
	"testing"

	"blackboard/api"
	"blackboard/pack"
)

// most is the greatest number that is taken as it is.
const most = 1 << 40

// dice throw what looks like any number, the same ones for the same seed.
type dice struct{ seed uint32 }

// below is a number from 0 to n - 1.
func (d *dice) below(n int) int {
	d.seed = d.seed*1664525 + 1013904223
	return int(d.seed>>8) % n
}

// bytes are n of them.
func (d *dice) bytes(n int) []byte {
	b := make([]byte, n)
	for i := range b {
		b[i] = byte(d.below(256))
	}
	return b
}

// symbols are n of them.
func (d *dice) symbols(n int) []uint16 {
	s := make([]uint16, n)
	for i := range s {
		s[i] = uint16(d.below(1024))
	}
	return s
}

// spell writes bits by 0 and 1, the highest of each number first, apart from what package pack does.
func spell[T byte | uint16](l []T, width int) string {
	var text []byte
	for _, x := range l {
		for i := width - 1; i >= 0; i-- {
			text = append(text, '0'+byte(x>>i&1))
		}
	}
	return string(text)
}

// symbolsOf reads a text of 0 and 1 ten by ten, the last ones filled up with 0.
func symbolsOf(text string) []uint16 {
	var s []uint16
	for i := range text {
		if i%10 == 0 {
			s = append(s, 0)
		}
		s[i/10] |= uint16(text[i]-'0') << (9 - i%10)
	}
	return s
}

// bytesOf reads the first n bytes of a text of 0 and 1.
func bytesOf(text string, n int) []byte {
	b := make([]byte, n)
	for i := range n * 8 {
		b[i/8] |= (text[i] - '0') << (7 - i%8)
	}
	return b
}

// packs tells that b packs into want.
func packs(t *testing.T, b []byte, want ...uint16) {
	t.Helper()
	if got := pack.Pack(b); !slices.Equal(got, want) {
		t.Errorf("Pack(%v) = %v, want %v", b, got, want)
	}
}

// unpacks tells that the first bytes of s are want.
func unpacks(t *testing.T, s []uint16, want ...byte) {
	t.Helper()
	got, err := pack.Unpack(s, len(want))
	if err != api.OK || !slices.Equal(got, want) {
		t.Errorf("Unpack(%v, %d) = %v, %v, want %v", s, len(want), got, err, want)
	}
}

// refused tells that Unpack answers an error, and nothing beside it.
func refused(t *testing.T, s []uint16, n int, want api.Errno) {
	t.Helper()
	if got, err := pack.Unpack(s, n); err != want || len(got) != 0 {
		t.Errorf("Unpack(%v, %d) = %v, %v, want %v", s, n, got, err, want)
	}
}

// P5.1: Symbols, Bytes.

func TestSymbolsAreEightTenthsRoundedUp(t *testing.T) {
	for n, want := range []int{0, 1, 2, 3, 4, 4, 5, 6, 7, 8, 8, 9, 10, 11, 12, 12, 13} {
		if got := pack.Symbols(n); got != want {
			t.Errorf("Symbols(%d) = %d, want %d", n, got, want)
		}
	}
	for _, c := range []struct{ n, want int }{
		{99, 80}, {100, 80}, {101, 81},
		{1 << 20, 838861}, {math.MaxInt32, 1717986918},
		{most - 2, 879609302220}, {most - 1, 879609302220}, {most, 879609302221},
	} {
		if got := pack.Symbols(c.n); got != c.want {
			t.Errorf("Symbols(%d) = %d, want %d", c.n, got, c.want)
		}
	}
}

func TestBytesAreTenEighthsRoundedDown(t *testing.T) {
	for n, want := range []int{0, 1, 2, 3, 5, 6, 7, 8, 10, 11, 12, 13, 15, 16, 17, 18, 20} {
		if got := pack.Bytes(n); got != want {
			t.Errorf("Bytes(%d) = %d, want %d", n, got, want)
		}
	}
	for _, c := range []struct{ n, want int }{
		{99, 123}, {100, 125}, {101, 126},
		{1 << 20, 1310720}, {math.MaxInt32, 2684354558},
		{most - 2, 1374389534717}, {most - 1, 1374389534718}, {most, 1374389534720},
	} {
		if got := pack.Bytes(c.n); got != c.want {
			t.Errorf("Bytes(%d) = %d, want %d", c.n, got, c.want)
		}
	}
}

func TestSizesBelowNoughtAreNought(t *testing.T) {
	for _, n := range []int{-1, -2, -3, -4, -5, -8, -10, -1024, -most, -most - 1, math.MinInt32, math.MinInt / 8, math.MinInt / 10, math.MinInt + 1, math.MinInt} {
		if got := pack.Symbols(n); got != 0 {
			t.Errorf("Symbols(%d) = %d, want 0", n, got)
		}
		if got := pack.Bytes(n); got != 0 {
			t.Errorf("Bytes(%d) = %d, want 0", n, got)
		}
	}
}

func TestGreatSizesAreTheGreatestThatIsCounted(t *testing.T) {
	for _, n := range []int{most + 1, most + 2, most + 5, most + 10, 2 * most, math.MaxInt/10 - 1, math.MaxInt / 10, math.MaxInt/10 + 1, math.MaxInt / 8, math.MaxInt/8 + 1, math.MaxInt / 2, math.MaxInt - 9, math.MaxInt - 1, math.MaxInt} {
		if got := pack.Symbols(n); got != 879609302221 {
			t.Errorf("Symbols(%d) = %d, want that of 2^40", n, got)
		}
		if got := pack.Bytes(n); got != 1374389534720 {
			t.Errorf("Bytes(%d) = %d, want that of 2^40", n, got)
		}
	}
}

func TestSymbolsAreTheFewestThatHoldTheBytes(t *testing.T) {
	for n := 1; n <= 3000; n++ {
		s := pack.Symbols(n)
		if s*10 < n*8 || (s-1)*10 >= n*8 {
			t.Errorf("Symbols(%d) = %d", n, s)
		}
		if pack.Bytes(s) < n || pack.Bytes(s-1) >= n {
			t.Errorf("into %d symbols go %d bytes, into %d %d: %d bytes take not %d", s, pack.Bytes(s), s-1, pack.Bytes(s-1), n, s)
		}
		b := pack.Bytes(n)
		if b*8 > n*10 || (b+1)*8 <= n*10 {
			t.Errorf("Bytes(%d) = %d", n, b)
		}
	}
}

// P5.1: Pack.

func TestPackOfNoBytes(t *testing.T) {
	packs(t, nil)
	packs(t, []byte{})
	packs(t, make([]byte, 0, 8))
}

func TestPackPutsTheHighestBitsFirst(t *testing.T) {
	packs(t, []byte{255}, 1020)
	packs(t, []byte{1}, 4)
	packs(t, []byte{128}, 512)
	packs(t, []byte{0}, 0)
	packs(t, []byte{0, 128}, 2, 0)
	packs(t, []byte{0, 64}, 1, 0)
	packs(t, []byte{0, 32}, 0, 512)
	packs(t, []byte{1, 2, 3, 4, 5}, 4, 32, 193, 5)
	packs(t, []byte{255, 255, 255, 255, 255}, 1023, 1023, 1023, 1023)
}

func TestPackFillsTheLastSymbolWithNoughts(t *testing.T) {
	packs(t, []byte{255, 255}, 1023, 1008)
	packs(t, []byte{255, 255, 255}, 1023, 1023, 960)
	packs(t, []byte{255, 255, 255, 255}, 1023, 1023, 1023, 768)
	packs(t, []byte{255, 255, 255, 255, 255, 255}, 1023, 1023, 1023, 1023, 1020)
	packs(t, []byte{0, 0, 0, 0, 0, 1}, 0, 0, 0, 0, 4)
}

func TestPackPutsEachBitInItsPlace(t *testing.T) {
	for n := 1; n <= 16; n++ {
		for bit := range n * 8 {
			b, want := make([]byte, n), make([]uint16, pack.Symbols(n))
			b[bit/8] = 128 >> (bit % 8)
			want[bit/10] = 512 >> (bit % 10)
			packs(t, b, want...)
			// And a bit 0 among bits 1.
			for i := range b {
				b[i] ^= 255
			}
			for i := range n * 8 {
				want[i/10] ^= 512 >> (i % 10)
			}
			packs(t, b, want...)
		}
	}
}

func TestPackIsOneStream(t *testing.T) {
	d := dice{1}
	for n := range 400 {
		b := d.bytes(n)
		want := symbolsOf(spell(b, 8))
		packs(t, b, want...)
		if len(want) != pack.Symbols(n) {
			t.Errorf("%d bytes are %d symbols, and Symbols tells %d", n, len(want), pack.Symbols(n))
		}
	}
}

// P5.1: Unpack.

func TestUnpackOfNoBytes(t *testing.T) {
	unpacks(t, nil)
	unpacks(t, []uint16{})
	unpacks(t, []uint16{1023})
	unpacks(t, []uint16{0, 5, 1023})
}

func TestUnpackTakesTheHighestBitsFirst(t *testing.T) {
	unpacks(t, []uint16{1020}, 255)
	unpacks(t, []uint16{4}, 1)
	unpacks(t, []uint16{512}, 128)
	unpacks(t, []uint16{2, 0}, 0, 128)
	unpacks(t, []uint16{1, 0}, 0, 64)
	unpacks(t, []uint16{0, 512}, 0, 32)
	unpacks(t, []uint16{4, 32, 193, 5}, 1, 2, 3, 4, 5)
	unpacks(t, []uint16{1023, 1023, 1023, 1023}, 255, 255, 255, 255, 255)
}

func TestUnpackTakesAnyBitsBehindTheBytes(t *testing.T) {
	unpacks(t, []uint16{1023}, 255)
	unpacks(t, []uint16{3}, 0)
	unpacks(t, []uint16{4, 47}, 1, 2)
	unpacks(t, []uint16{4, 32, 193, 5}, 1)
	unpacks(t, []uint16{4, 32, 193, 5}, 1, 2, 3, 4)
	unpacks(t, []uint16{4, 32, 193, 5, 1023, 1023, 1023}, 1, 2, 3, 4, 5)
}

func TestUnpackTakesEachBitFromItsPlace(t *testing.T) {
	for n := 1; n <= 12; n++ {
		for bit := range n * 10 {
			s, want := make([]uint16, n), make([]byte, n*10/8)
			s[bit/10] = 512 >> (bit % 10)
			if bit < len(want)*8 {
				want[bit/8] = 128 >> (bit % 8)
			}
			unpacks(t, s, want...)
		}
	}
}

func TestUnpackIsOneStream(t *testing.T) {
	d := dice{2}
	for n := range 80 {
		s := d.symbols(n)
		text := spell(s, 10)
		for want := range n*10/8 + 1 {
			unpacks(t, s, bytesOf(text, want)...)
		}
	}
}

func TestUnpackTakesAsManyBytesAsGoIn(t *testing.T) {
	d := dice{3}
	for n := range 60 {
		s := d.symbols(n)
		full := n * 10 / 8
		if got, err := pack.Unpack(s, full); err != api.OK || len(got) != full {
			t.Errorf("Unpack of %d symbols, %d bytes: %v, %v", n, full, got, err)
		}
		for _, wrong := range []int{full + 1, full + 2, 2*full + 10, full + 1<<32, most, most + 1, math.MaxInt, -1, -2, -full - 1, math.MinInt} {
			refused(t, s, wrong, api.ErrSize)
		}
	}
	refused(t, nil, 1, api.ErrSize)
	refused(t, nil, -1, api.ErrSize)
	refused(t, make([]uint16, 1, 100), 2, api.ErrSize)
}

func TestUnpackRefusesWhatIsNoSymbol(t *testing.T) {
	d := dice{4}
	for _, wrong := range []uint16{1024, 1025, 2047, 2048, 1 << 15, math.MaxUint16} {
		for at := range 8 {
			s := d.symbols(8)
			s[at] = wrong
			for n := range 11 {
				refused(t, s, n, api.ErrArg)
			}
			// A wrong n is told ahead of it.
			for _, n := range []int{11, math.MaxInt, -1, math.MinInt} {
				refused(t, s, n, api.ErrSize)
			}
			// It does not lie in the list any more.
			if got, err := pack.Unpack(s[:at], pack.Bytes(at)); err != api.OK || len(got) != pack.Bytes(at) {
				t.Errorf("Unpack(%v) = %v, %v", s[:at], got, err)
			}
		}
	}
	unpacks(t, []uint16{1023, 1023}, 255, 255)
}

// P5.1: both.

func TestWhatWasPackedIsUnpacked(t *testing.T) {
	d := dice{5}
	for _, n := range []int{0, 1, 2, 3, 4, 5, 6, 7, 8, 9, 10, 11, 79, 80, 81, 310, 1000, 1023, 1024, 1 << 16, 1<<16 + 3} {
		b := d.bytes(n)
		s := pack.Pack(b)
		for i, x := range s {
			if x > 1023 {
				t.Fatalf("Pack of %d bytes: place %d: %d is no symbol", n, i, x)
			}
		}
		got, err := pack.Unpack(s, n)
		if err != api.OK || !slices.Equal(got, b) {
			t.Errorf("%d bytes are others behind Pack and Unpack: %v", n, err)
		}
	}
	for x := range 1 << 16 {
		b := []byte{byte(x >> 8), byte(x)}
		unpacks(t, pack.Pack(b), b...)
	}
}

func TestWhatWasUnpackedIsPacked(t *testing.T) {
	d := dice{6}
	for n := 0; n <= 400; n += 4 { // so that no bits are left over
		s := d.symbols(n)
		b, err := pack.Unpack(s, n*10/8)
		if got := pack.Pack(b); err != api.OK || !slices.Equal(got, s) {
			t.Errorf("%d symbols are others behind Unpack and Pack: %v", n, err)
		}
	}
}

// P5.1 and the rules that hold everywhere.

// whole is l with its spare room.
func whole[T any](l []T) []T {
	return l[:cap(l)]
}

func TestListsHandedInAreNotChanged(t *testing.T) {
	d := dice{7}
	for n := range 40 {
		b, s := d.bytes(n + 8)[:n], d.symbols(n + 8)[:n]
		bytesWere, symbolsWere := slices.Clone(whole(b)), slices.Clone(whole(s))
		symbols := pack.Pack(b)
		bytes, _ := pack.Unpack(s, pack.Bytes(n))
		for i := range whole(symbols) { // nor by what becomes of the answer
			whole(symbols)[i] ^= 77
		}
		for i := range whole(bytes) {
			whole(bytes)[i] ^= 77
		}
		pack.Unpack(s, -1)
		pack.Unpack(s, pack.Bytes(n)+1)
		if !slices.Equal(whole(b), bytesWere) || !slices.Equal(whole(s), symbolsWere) {
			t.Errorf("a list of %d is another one behind it", n)
		}
	}
}

func TestAnswersAreNewAndHangOnTheArgumentsAlone(t *testing.T) {
	d := dice{8}
	for n := range 40 {
		b, s := d.bytes(n), d.symbols(n)
		symbols, wantSymbols := pack.Pack(b), symbolsOf(spell(b, 8))
		bytes, _ := pack.Unpack(s, pack.Bytes(n))
		wantBytes := bytesOf(spell(s, 10), n*10/8)
		// What is done to an answer, or to what was handed in, shows in no other answer.
		for i := range whole(symbols) {
			whole(symbols)[i] = 9999
		}
		for i := range whole(bytes) {
			whole(bytes)[i] ^= 255
		}
		packs(t, b, wantSymbols...)
		unpacks(t, s, wantBytes...)
		symbols, _ = pack.Pack(b), pack.Pack(d.bytes(n))
		bytes, _ = pack.Unpack(s, pack.Bytes(n))
		clear(b)
		clear(s)
		if !slices.Equal(symbols, wantSymbols) || !slices.Equal(bytes, wantBytes) {
			t.Errorf("an answer about a list of %d changed behind it", n)
		}
	}
}
