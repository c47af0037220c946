package plain_test

import (
	"bytes"
	"math"
	"testing"

	"blackboard/api"
	"blackboard/plain"
)

// The bounds, in figures of their own.
const (
	most     = 16777216
	least    = math.MinInt
	greatest = math.MaxInt
)

// far are numbers of no host page of any array: also such whose lowest 24 or 32 bits would be one.
var far = []int{least, least + 1, -1 << 62, -1<<32 + 1, -1 << 32, math.MinInt32, -most, -most + 1, -65, -64, -2, -1,
	most, most + 1, 2 * most, 1 << 31, 1 << 32, 1<<32 + 1, 1 << 60, 1 << 62, 1<<62 + 1, greatest - 1, greatest}

// shapes are numbers of host pages, and sizes.
var shapes = [][2]int{{0, 0}, {0, 5}, {5, 0}, {1, 0}, {0, 1}, {1, 1}, {1, 6}, {6, 1}, {2, 3}, {3, 2}, {4, 4}, {7, 9}, {33, 5}, {5, 33}, {64, 65}}

// dice throw what looks like any number, the same ones for the same seed.
type dice struct{ seed uint32 }

// below is a number from 0 to n - 1.
func (d *dice) below(n int) int {
	d.seed = d.seed*1664525 + 1013904223
	return int(d.seed>>8) % n
}

// bytes are n of any.
func (d *dice) bytes(n int) []byte {
	b := make([]byte, n)
	for i := range b {
		b[i] = byte(d.below(256))
	}
	return b
}

// model is an array as texts, one a host page.
type model struct {
	pages []string
	size  int
}

// modelOf is one of noughts.
func modelOf(lpns, size int) *model {
	m := &model{size: size}
	for range lpns {
		m.pages = append(m.pages, string(make([]byte, size)))
	}
	return m
}

// write is what Write is to answer, and does it.
func (m *model) write(lpn int, data []byte) api.Errno {
	if lpn < 0 || lpn >= len(m.pages) {
		return api.ErrRange
	}
	if len(data) != m.size {
		return api.ErrSize
	}
	m.pages[lpn] = string(data)
	return api.OK
}

// trim is what Trim is to answer, and does it.
func (m *model) trim(lpn int) api.Errno {
	return m.write(lpn, make([]byte, m.size))
}

// filled is an array of that shape of any bytes, and what it holds.
func filled(t *testing.T, lpns, size int, seed uint32) (*plain.Plain, *model) {
	t.Helper()
	p, m := plain.New(lpns, size), modelOf(lpns, size)
	d := &dice{seed}
	for lpn := range lpns {
		data := d.bytes(size)
		write(t, p, lpn, data, m.write(lpn, data))
	}
	return p, m
}

// write tells what Write answers.
func write(t *testing.T, p *plain.Plain, lpn int, data []byte, want api.Errno) {
	t.Helper()
	if err := p.Write(lpn, data); err != want {
		t.Errorf("Write(%d, %d bytes) = %v, want %v", lpn, len(data), err, want)
	}
}

// trim tells what Trim answers.
func trim(t *testing.T, p *plain.Plain, lpn int, want api.Errno) {
	t.Helper()
	if err := p.Trim(lpn); err != want {
		t.Errorf("Trim(%d) = %v, want %v", lpn, err, want)
	}
}

// read tells that a host page has just these bytes.
func read(t *testing.T, p *plain.Plain, lpn int, want string) {
	t.Helper()
	if got, err := p.Read(lpn); string(got) != want || err != api.OK {
		t.Errorf("Read(%d) = %v, %v, want %v, %v", lpn, got, err, []byte(want), api.OK)
	}
}

// unread tells that a host page can't be read.
func unread(t *testing.T, p *plain.Plain, lpn int, want api.Errno) {
	t.Helper()
	if got, err := p.Read(lpn); len(got) != 0 || err != want {
		t.Errorf("Read(%d) = %v, %v, want none, %v", lpn, got, err, want)
	}
}

// same tells whether two have the same, asked both ways.
func same(t *testing.T, p, o *plain.Plain, want bool) {
	t.Helper()
	if p.Same(o) != want || o.Same(p) != want {
		t.Errorf("Same = %v, and the other way %v, want %v", p.Same(o), o.Same(p), want)
	}
}

// holds tells that p has all that m has, and nothing beside it.
func holds(t *testing.T, p *plain.Plain, m *model) {
	t.Helper()
	for lpn, page := range m.pages {
		read(t, p, lpn, page)
	}
	unread(t, p, len(m.pages), api.ErrRange)
	unread(t, p, -1, api.ErrRange)
}

// scribble writes over all of b, its spare room too.
func scribble(b []byte) {
	b = b[:cap(b)]
	for i := range b {
		b[i] ^= 0xa5
	}
}

// P21.1: the example.

func TestExample(t *testing.T) {
	p := plain.New(1, 4)
	trim(t, p, 0, api.OK)
	read(t, p, 0, "\x00\x00\x00\x00")
	write(t, p, 0, []byte{1, 2, 3, 4}, api.OK)
	trim(t, p, 0, api.OK)
	read(t, p, 0, "\x00\x00\x00\x00")
}

// P21.1: all of it, over calls in any order, held against texts.

func TestAnyCalls(t *testing.T) {
	d := &dice{seed: 21}
	for _, s := range shapes {
		p, m := plain.New(s[0], s[1]), modelOf(s[0], s[1])
		for range 300 {
			lpn, size := d.below(s[0]+4)-2, s[1]
			switch d.below(8) {
			case 0, 1:
				trim(t, p, lpn, m.trim(lpn))
			case 2:
				size = d.below(s[1] + 3)
				fallthrough
			default:
				data := d.bytes(size)
				write(t, p, lpn, data, m.write(lpn, data))
			}
			holds(t, p, m)
		}
	}
}

// All calls that an array of two host pages of one byte can be given, five in a row.
func TestAllCallsOfFew(t *testing.T) {
	const lpns, calls = 2, 5
	const kinds = 3 * lpns // of each host page: two writes and a trim
	all := 1
	for range calls {
		all *= kinds
	}
	for which := range all {
		p, m := plain.New(lpns, 1), modelOf(lpns, 1)
		for rest, n := which, 0; n < calls; rest, n = rest/kinds, n+1 {
			lpn, do := rest%kinds/3, rest%3
			if do == 0 {
				trim(t, p, lpn, m.trim(lpn))
			} else {
				data := []byte{byte(do)}
				write(t, p, lpn, data, m.write(lpn, data))
			}
			holds(t, p, m)
		}
	}
}

// R3: what is asked, and what is refused, changes nothing.

func TestAskedAndRefusedChangesNothing(t *testing.T) {
	for _, s := range shapes {
		p, m := filled(t, s[0], s[1], 3)
		was := p.Copy()
		for _, lpn := range append([]int{s[0], s[0] + 1}, far...) {
			unread(t, p, lpn, api.ErrRange)
			write(t, p, lpn, make([]byte, s[1]), api.ErrRange)
			trim(t, p, lpn, api.ErrRange)
		}
		for lpn := range s[0] {
			write(t, p, lpn, make([]byte, s[1]+1), api.ErrSize)
			if s[1] > 0 {
				write(t, p, lpn, make([]byte, s[1]-1), api.ErrSize)
				write(t, p, lpn, nil, api.ErrSize)
			}
		}
		p.Same(plain.New(s[0], s[1]))
		p.Copy().Trim(0)
		holds(t, p, m)
		same(t, p, was, true)
	}
}

// R5: the same calls bring the same answers, and two arrays know nothing of one another.

func TestSameCallsSameAnswers(t *testing.T) {
	a, b := plain.New(20, 6), plain.New(20, 6)
	d := &dice{seed: 5}
	for range 3000 {
		lpn, size := d.below(24)-2, 6
		if d.below(5) == 0 {
			size = d.below(9)
		}
		data := d.bytes(size)
		if x, y := a.Write(lpn, data), b.Write(lpn, data); x != y {
			t.Fatalf("Write(%d, %v) = %v, then %v", lpn, data, x, y)
		}
		lpn = d.below(24) - 2
		if x, y := a.Trim(lpn), b.Trim(lpn); x != y {
			t.Fatalf("Trim(%d) = %v, then %v", lpn, x, y)
		}
		lpn = d.below(24) - 2
		x, one := a.Read(lpn)
		if y, other := b.Read(lpn); !bytes.Equal(x, y) || one != other {
			t.Fatalf("Read(%d) = %v, %v, then %v, %v", lpn, x, one, y, other)
		}
		same(t, a, b, true)
		same(t, a.Copy(), b.Copy(), true)
	}
}

func TestTwoArrays(t *testing.T) {
	a, one := filled(t, 8, 5, 1)
	b, other := filled(t, 8, 5, 2)
	holds(t, a, one)
	holds(t, b, other)
	for lpn := range 8 {
		trim(t, a, lpn, one.trim(lpn))
		holds(t, a, one)
		holds(t, b, other)
	}
	holds(t, plain.New(8, 5), modelOf(8, 5))
}

// R7: methods of nothing, and nothing handed in.

func TestNil(t *testing.T) {
	var none *plain.Plain
	for range 2 {
		for _, lpn := range append([]int{0, 1, 5}, far...) {
			write(t, none, lpn, nil, api.ErrArg)
			write(t, none, lpn, []byte{1, 2}, api.ErrArg)
			trim(t, none, lpn, api.ErrArg)
			unread(t, none, lpn, api.ErrArg)
		}
		if c := none.Copy(); c != nil {
			t.Errorf("Copy of nil = %v, want nil", c)
		}
	}
	same(t, none, none, false)
	for _, s := range shapes {
		same(t, plain.New(s[0], s[1]), none, false)
	}
}

// An array that nobody made has no host pages.
func TestZeroPlain(t *testing.T) {
	p := new(plain.Plain)
	for _, lpn := range append([]int{0, 1}, far...) {
		write(t, p, lpn, nil, api.ErrRange)
		trim(t, p, lpn, api.ErrRange)
		unread(t, p, lpn, api.ErrRange)
	}
	same(t, p, plain.New(0, 0), true)
	same(t, p, p.Copy(), true)
	same(t, p, plain.New(1, 0), false)
}
