package plain_test

import (
	"testing"

	"blackboard/api"
	"blackboard/plain"
)

// P21.1: New.

// empty tells that there are no host pages at all, of whatever number and size.
func empty(t *testing.T, p *plain.Plain) {
	t.Helper()
	if p == nil {
		t.Fatal("New = nil, want an array without host pages")
	}
	for _, lpn := range append([]int{0, 1, 2, 100, most - 1}, far...) {
		unread(t, p, lpn, api.ErrRange)
		trim(t, p, lpn, api.ErrRange)
		for size := range 4 {
			write(t, p, lpn, make([]byte, size), api.ErrRange)
		}
	}
}

func TestNewHoldsNoughts(t *testing.T) {
	for lpns := range 20 {
		for size := range 20 {
			p := plain.New(lpns, size)
			holds(t, p, modelOf(lpns, size))
			for lpn := range lpns {
				write(t, p, lpn, make([]byte, size+1), api.ErrSize)
				write(t, p, lpn, make([]byte, size), api.OK)
			}
			unread(t, p, lpns, api.ErrRange)
		}
	}
}

func TestNewOfLpnsBelowNought(t *testing.T) {
	for _, lpns := range []int{least, least + 1, -1 << 62, -1<<32 + 3, -1 << 32, -most - 1, -most, -3, -2, -1} {
		for _, size := range []int{0, 1, 5, most, least, -1} {
			p := plain.New(lpns, size)
			empty(t, p)
			same(t, p, plain.New(0, size), true)
		}
	}
}

func TestNewOfSizeBelowNought(t *testing.T) {
	for _, size := range []int{least, least + 1, -1 << 62, -1<<32 + 3, -1 << 32, -most - 1, -most, -3, -2, -1} {
		for _, lpns := range []int{0, 1, 5, 130} {
			p := plain.New(lpns, size)
			holds(t, p, modelOf(lpns, 0))
			for lpn := range lpns {
				write(t, p, lpn, nil, api.OK)
				write(t, p, lpn, []byte{1}, api.ErrSize)
				trim(t, p, lpn, api.OK)
				read(t, p, lpn, "")
			}
			same(t, p, plain.New(lpns, 0), true)
		}
	}
}

// At the limit all is well: of the number, of the size, and of the bytes in all.
func TestNewOfMost(t *testing.T) {
	for _, s := range [][2]int{{most, 1}, {1, most}, {2, most / 2}, {most / 2, 2}, {4096, 4096}, {3, 5592405}, {5592405, 3}, {most - 1, 1}, {1, most - 1}} {
		p, lpns, size := plain.New(s[0], s[1]), s[0], s[1]
		noughts := string(make([]byte, size))
		read(t, p, 0, noughts)
		read(t, p, lpns-1, noughts)
		data := (&dice{7}).bytes(size)
		write(t, p, lpns-1, data, api.OK)
		write(t, p, 0, data, api.OK)
		read(t, p, lpns-1, string(data))
		write(t, p, lpns, data, api.ErrRange)
		write(t, p, lpns-1, data[:size-1], api.ErrSize)
		trim(t, p, lpns-1, api.OK)
		read(t, p, lpns-1, noughts)
		unread(t, p, lpns, api.ErrRange)
	}
}

// As many host pages as there can be may be without bytes.
func TestNewOfMostWithoutBytes(t *testing.T) {
	for _, size := range []int{0, -1, least} {
		p := plain.New(most, size)
		for _, lpn := range []int{0, 1, most / 2, most - 1} {
			read(t, p, lpn, "")
			write(t, p, lpn, nil, api.OK)
			write(t, p, lpn, []byte{1}, api.ErrSize)
			trim(t, p, lpn, api.OK)
		}
		unread(t, p, most, api.ErrRange)
		empty(t, plain.New(most+1, size))
	}
	empty(t, plain.New(0, most))
}

func TestNewOfTooMany(t *testing.T) {
	for _, s := range [][2]int{
		{most + 1, 0}, {most + 1, 1}, {most + 1, -1}, {greatest, 0}, {greatest, 1}, {greatest, least}, // the number
		{0, most + 1}, {1, most + 1}, {-1, most + 1}, {0, greatest}, {1, greatest}, {least, greatest}, // the size
		{2, most/2 + 1}, {most/2 + 1, 2}, {3, 5592406}, {5592406, 3}, {4096, 4097}, {4097, 4096}, {4097, 4097}, // their product
		{most, 2}, {2, most}, {most, most}, {most - 1, most - 1}, {most - 1, 2},
		{1 << 32, 1 << 32}, {1 << 33, 1 << 31}, {1 << 62, 4}, {4, 1 << 62}, {1 << 62, 2}, {2, 1 << 62}, {greatest, greatest}, {greatest, 2}, {2, greatest}, // whose product an int holds no more
		{1<<32 + 1, 1 << 32}, {1 << 63 / 3, 3}, {6148914691236517206, 3}, {3, 6148914691236517206}, // nor tells what it was
	} {
		empty(t, plain.New(s[0], s[1]))
		empty(t, plain.New(s[0], s[1]).Copy())
	}
}
