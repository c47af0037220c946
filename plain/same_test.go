package plain_test

import (
	"testing"

	"blackboard/api"
	"blackboard/plain"
)

// P21.1: Same.

func TestSameOfTheSame(t *testing.T) {
	for _, s := range shapes {
		p, _ := filled(t, s[0], s[1], 1)
		o, _ := filled(t, s[0], s[1], 1)
		same(t, p, p, true)
		same(t, p, o, true)
		same(t, p, p.Copy(), true)
	}
}

// Each bit of each byte counts.
func TestSameButForABit(t *testing.T) {
	p, m := filled(t, 5, 9, 2)
	for lpn, page := range m.pages {
		for at := range page {
			for bit := range 8 {
				o := p.Copy()
				data := []byte(page)
				data[at] ^= 1 << bit
				write(t, o, lpn, data, api.OK)
				same(t, p, o, false)
				write(t, o, lpn, []byte(page), api.OK)
				same(t, p, o, true)
			}
		}
	}
}

// Pages are held against each other by their numbers, not by what they have.
func TestSameInAnotherOrder(t *testing.T) {
	p, o := plain.New(2, 2), plain.New(2, 2)
	write(t, p, 0, []byte{1, 2}, api.OK)
	write(t, o, 1, []byte{1, 2}, api.OK)
	same(t, p, o, false)
	write(t, p, 1, []byte{1, 2}, api.OK)
	same(t, p, o, false)
	write(t, o, 0, []byte{1, 2}, api.OK)
	same(t, p, o, true)
}

// Of unlike numbers: no, also where as many bytes are alike in all, or none are held at all.
func TestSameOfUnlikeShapes(t *testing.T) {
	for i, s := range shapes {
		for j, r := range shapes {
			same(t, plain.New(s[0], s[1]), plain.New(r[0], r[1]), i == j)
		}
	}
	for n := range 9 {
		for m := range 9 {
			same(t, plain.New(0, n), plain.New(0, m), n == m)
			same(t, plain.New(n, 0), plain.New(m, 0), n == m)
			same(t, plain.New(n, 3), plain.New(m, 3), n == m)
			same(t, plain.New(3, n), plain.New(3, m), n == m)
			same(t, plain.New(n, m), plain.New(m, n), n == m)
		}
	}
}

// What has more host pages than there can be has none, of the size that was asked for.
func TestSameOfTooMany(t *testing.T) {
	for _, lpns := range []int{most + 1, 2 * most, greatest} {
		same(t, plain.New(lpns, 5), plain.New(0, 5), true)
		same(t, plain.New(lpns, 5), plain.New(0, 6), false)
		same(t, plain.New(lpns, 5), plain.New(lpns, 6), false)
		same(t, plain.New(lpns, 5), plain.New(1, 5), false)
	}
	same(t, plain.New(3, most), plain.New(0, most), true)
	same(t, plain.New(3, most), plain.New(most, most), true)
	same(t, plain.New(3, most), plain.New(1, most), false)
}

// What was trimmed is the same as what was never written, and as noughts that were written.
func TestSameOfWhatWasTrimmed(t *testing.T) {
	for _, s := range shapes {
		p, _ := filled(t, s[0], s[1], 3)
		o := plain.New(s[0], s[1])
		for lpn := range s[0] {
			same(t, p, o, s[1] == 0)
			trim(t, p, lpn, api.OK)
			if lpn%2 == 0 {
				write(t, o, lpn, make([]byte, s[1]), api.OK)
			}
		}
		same(t, p, o, true)
	}
}
