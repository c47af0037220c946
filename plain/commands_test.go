package plain_test

import (
	"slices"
	"testing"

	"blackboard/api"
	"blackboard/plain"
)

// P21.1: Write, Read, Trim.

func TestWriteIsRead(t *testing.T) {
	for _, s := range shapes {
		p, m := filled(t, s[0], s[1], 1)
		holds(t, p, m)
	}
}

// What was written last is read, and no other host page has it.
func TestWriteAgain(t *testing.T) {
	p, m := plain.New(6, 7), modelOf(6, 7)
	d := &dice{seed: 4}
	for range 3 {
		for _, lpn := range []int{0, 5, 2, 3, 1, 4, 4, 0} {
			data := d.bytes(7)
			write(t, p, lpn, data, m.write(lpn, data))
			holds(t, p, m)
		}
	}
}

func TestEachByte(t *testing.T) {
	p := plain.New(3, 5)
	for at := range 5 {
		for x := range 256 {
			data := make([]byte, 5)
			data[at] = byte(x)
			write(t, p, 1, data, api.OK)
			read(t, p, 1, string(data))
			read(t, p, 0, string(make([]byte, 5)))
			read(t, p, 2, string(make([]byte, 5)))
		}
	}
}

func TestTrim(t *testing.T) {
	p, m := filled(t, 6, 7, 2)
	for _, lpn := range []int{3, 0, 5, 5, 1, 2, 4, 3} {
		trim(t, p, lpn, m.trim(lpn))
		read(t, p, lpn, string(make([]byte, 7)))
		holds(t, p, m)
	}
}

func TestTrimOfNothing(t *testing.T) {
	p, m := plain.New(4, 3), modelOf(4, 3)
	for range 2 {
		for lpn := range 4 {
			trim(t, p, lpn, api.OK)
			holds(t, p, m)
		}
	}
}

func TestWriteBehindTrim(t *testing.T) {
	p := plain.New(2, 3)
	for range 3 {
		write(t, p, 1, []byte{7, 0, 9}, api.OK)
		read(t, p, 1, "\x07\x00\x09")
		trim(t, p, 1, api.OK)
		read(t, p, 1, "\x00\x00\x00")
	}
	read(t, p, 0, "\x00\x00\x00")
}

func TestErrRange(t *testing.T) {
	for _, s := range shapes {
		p, m := filled(t, s[0], s[1], 6)
		for _, lpn := range append([]int{s[0], s[0] + 1, s[0] + 64, s[0] * 2, -s[0] - 1}, far...) {
			if lpn >= 0 && lpn < s[0] {
				continue
			}
			write(t, p, lpn, make([]byte, s[1]), api.ErrRange)
			trim(t, p, lpn, api.ErrRange)
			unread(t, p, lpn, api.ErrRange)
		}
		holds(t, p, m)
	}
}

func TestErrSize(t *testing.T) {
	for _, s := range shapes {
		p, m := filled(t, s[0], s[1], 8)
		for lpn := range s[0] {
			for _, size := range []int{0, 1, s[1] - 1, s[1] + 1, 2 * s[1], s[1] + 256, 65536 + s[1]} {
				if size >= 0 && size != s[1] {
					write(t, p, lpn, make([]byte, size), api.ErrSize)
				}
			}
		}
		holds(t, p, m)
	}
}

// Of both, ErrRange stands ahead.
func TestErrRangeAheadOfErrSize(t *testing.T) {
	for _, s := range shapes {
		p, m := filled(t, s[0], s[1], 9)
		for _, lpn := range append([]int{s[0], s[0] + 1}, far...) {
			write(t, p, lpn, make([]byte, s[1]+1), api.ErrRange)
			write(t, p, lpn, make([]byte, max(s[1]-1, 0)), api.ErrRange)
			write(t, p, lpn, nil, api.ErrRange)
		}
		holds(t, p, m)
	}
}

// R4: what is handed in is not changed, and not kept: it may be changed afterwards.
func TestWhatIsHandedIn(t *testing.T) {
	p, m := plain.New(4, 6), modelOf(4, 6)
	d := &dice{seed: 10}
	for _, lpn := range []int{0, 3, 1, 2, 3, 4, -1} {
		for _, size := range []int{6, 5, 7} {
			data := slices.Grow(d.bytes(size), 9)
			all := data[:cap(data)]
			for i := size; i < len(all); i++ {
				all[i] = byte(i) | 1
			}
			was := slices.Clone(all)
			write(t, p, lpn, data, m.write(lpn, data))
			if !slices.Equal(all, was) {
				t.Errorf("Write(%d, ..) changed what was handed in: %v, was %v", lpn, all, was)
			}
			scribble(data)
			holds(t, p, m)
		}
	}
}

// R4: what is answered is new memory: it may be changed, too.
func TestWhatIsAnswered(t *testing.T) {
	p, m := filled(t, 4, 6, 11)
	trim(t, p, 2, m.trim(2))
	for lpn := range 4 {
		a, _ := p.Read(lpn)
		b, _ := p.Read(lpn)
		scribble(a)
		if string(b) != m.pages[lpn] {
			t.Errorf("what Read(%d) answered changed with what it answered ahead of it: %v", lpn, b)
		}
		_ = append(b, 1, 2, 3, 4, 5, 6, 7)
		holds(t, p, m)
	}
	a, _ := p.Read(1)
	was := string(a)
	write(t, p, 1, make([]byte, 6), m.write(1, make([]byte, 6)))
	if string(a) != was {
		t.Errorf("what Read answered changed with a Write: %v", a)
	}
	holds(t, p, m)
}

// One host page may be written with what another answered.
func TestWriteOfWhatWasRead(t *testing.T) {
	p, m := filled(t, 3, 4, 12)
	a, _ := p.Read(0)
	write(t, p, 2, a, m.write(2, a))
	a[0] ^= 1
	holds(t, p, m)
	trim(t, p, 0, m.trim(0))
	holds(t, p, m)
}
