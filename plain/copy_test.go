package plain_test

import (
	"testing"

	"blackboard/api"
	"blackboard/plain"
)

// P21.1: Copy.

func TestCopyHasTheSame(t *testing.T) {
	for _, s := range shapes {
		p, m := filled(t, s[0], s[1], 1)
		for range 3 {
			p = p.Copy()
			holds(t, p, m)
		}
	}
}

// Neither changes with the other.
func TestCopyIsApart(t *testing.T) {
	for _, s := range shapes {
		p, m := filled(t, s[0], s[1], 2)
		for lpn := range s[0] {
			c, n := p.Copy(), &model{append([]string(nil), m.pages...), m.size}
			data := (&dice{uint32(lpn)}).bytes(s[1])
			write(t, c, lpn, data, n.write(lpn, data))
			holds(t, p, m)
			holds(t, c, n)
			trim(t, p, lpn, m.trim(lpn))
			holds(t, p, m)
			holds(t, c, n)
			trim(t, c, 0, n.trim(0))
			write(t, p, s[0]-1, data, m.write(s[0]-1, data))
			holds(t, p, m)
			holds(t, c, n)
		}
	}
}

func TestCopyOfACopy(t *testing.T) {
	p, m := filled(t, 3, 4, 3)
	a := p.Copy()
	b := a.Copy()
	trim(t, a, 1, api.OK)
	holds(t, p, m)
	holds(t, b, m)
	same(t, p, b, true)
	same(t, p, a, false)
}

// A copy takes just what the array takes.
func TestCopyHasItsNumbers(t *testing.T) {
	for _, s := range shapes {
		c := plain.New(s[0], s[1]).Copy()
		write(t, c, s[0], make([]byte, s[1]), api.ErrRange)
		trim(t, c, s[0], api.ErrRange)
		for lpn := range s[0] {
			write(t, c, lpn, make([]byte, s[1]+1), api.ErrSize)
			write(t, c, lpn, make([]byte, s[1]), api.OK)
		}
		same(t, c, plain.New(s[0], s[1]), true)
	}
}

func TestCopyOfMost(t *testing.T) {
	p := plain.New(2, most/2)
	data := (&dice{4}).bytes(most / 2)
	write(t, p, 1, data, api.OK)
	c := p.Copy()
	same(t, p, c, true)
	trim(t, p, 1, api.OK)
	read(t, c, 1, string(data))
	same(t, p, c, false)
}
