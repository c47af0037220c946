package poly_test

import (
	"slices"
	"testing"

	"blackboard/field"
	"blackboard/poly"
)

const symbols = 1024

// both are tables that were made, and tables that nobody made: all that is promised holds for either.
var both = []struct {
	name string
	t    field.Tables
}{
	{"made", field.Make()},
	{"zero", field.Tables{}},
}

// list is short for a polynomial's factors.
type list = []uint16

// some tells n factors that look like any, the same ones for the same seed: about one in eight is nought, and one in four is beyond the symbols.
func some(n int, seed uint32) list {
	p := make(list, n)
	for i := range p {
		seed = seed*1664525 + 1013904223
		f := uint16(seed >> 16)
		if seed>>13&7 == 0 {
			f = 0
		}
		if seed>>11&3 != 0 {
			f %= symbols
		}
		p[i] = f
	}
	return p
}

// full is some with a first and a last factor other than nought: so it has n factors, however trimmed.
func full(n int, seed uint32) list {
	p := some(n, seed)
	p[0], p[n-1] = 3, 5
	return p
}

// plain is p with factors below 1024, and none of noughts at its end.
func plain(p list) list {
	var q list
	for _, f := range p {
		q = append(q, f%symbols)
	}
	for len(q) > 0 && q[len(q)-1] == 0 {
		q = q[:len(q)-1]
	}
	return q
}

// product multiplies each factor with each.
func product(a, b list) list {
	t := field.Make()
	p := make(list, len(a)+len(b))
	for i, f := range a {
		for j, g := range b {
			p[i+j] ^= t.Mul(f, g)
		}
	}
	return plain(p)
}

// sum xors factor by factor.
func sum(a, b list) list {
	p := make(list, max(len(a), len(b)))
	for i := range p {
		if i < len(a) {
			p[i] ^= a[i]
		}
		if i < len(b) {
			p[i] ^= b[i]
		}
	}
	return plain(p)
}

// noughts is p with n noughts behind it, of those above the symbols too.
func noughts(p list, n int) list {
	q := slices.Clone(p)
	for i := range n {
		q = append(q, uint16(i%3*symbols))
	}
	return q
}

// P3.1: Trim.

func TestTrimTakesNoughtsOffTheEnd(t *testing.T) {
	for _, c := range []struct{ p, want list }{
		{nil, nil}, {list{}, nil}, {list{0}, nil}, {list{0, 0, 0}, nil},
		{list{1}, list{1}}, {list{1, 0}, list{1}}, {list{0, 1}, list{0, 1}}, {list{0, 1, 0, 0}, list{0, 1}},
		{list{5, 0, 0, 7, 0}, list{5, 0, 0, 7}}, {list{1023, 1023}, list{1023, 1023}},
		// Modulo 1024.
		{list{1024}, nil}, {list{1, 1024}, list{1}}, {list{1, 1024, 2048, 64512}, list{1}}, {list{1025, 65535, 1024, 2050}, list{1, 1023, 0, 2}},
	} {
		if got := poly.Trim(c.p); !slices.Equal(got, c.want) {
			t.Errorf("Trim(%v) = %v, want %v", c.p, got, c.want)
		}
	}
	for n := range 60 {
		p := noughts(some(n, uint32(n)), n%4)
		if got, want := poly.Trim(p), plain(p); !slices.Equal(got, want) {
			t.Errorf("Trim(%v) = %v, want %v", p, got, want)
		}
	}
}

// P3.1: Add.

func TestAddXorsFactorByFactor(t *testing.T) {
	for _, c := range []struct{ a, b, want list }{
		{nil, nil, nil}, {list{1}, nil, list{1}}, {nil, list{1}, list{1}}, {list{0}, list{0, 0}, nil},
		{list{1, 2}, list{4}, list{5, 2}}, {list{4}, list{1, 2}, list{5, 2}}, {list{5, 3}, list{3, 5, 7}, list{6, 6, 7}},
		// What is trimmed is the sum.
		{list{1, 2, 3}, list{1, 2, 3}, nil}, {list{1, 2, 3}, list{9, 4, 3}, list{8, 6}}, {list{1, 0, 0}, list{2}, list{3}},
		// Modulo 1024.
		{list{1025, 1024}, list{2}, list{3}}, {list{1, 7}, list{1, 1024 + 7}, nil}, {list{2048 + 5}, list{1024 + 3, 65535}, list{6, 1023}},
	} {
		if got := poly.Add(c.a, c.b); !slices.Equal(got, c.want) {
			t.Errorf("Add(%v, %v) = %v, want %v", c.a, c.b, got, c.want)
		}
	}
	for n := range 30 {
		for m := range 30 {
			a, b := some(n, uint32(m)), some(m, uint32(n+100))
			if got, want := poly.Add(a, b), sum(a, b); !slices.Equal(got, want) {
				t.Errorf("Add(%v, %v) = %v, want %v", a, b, got, want)
			}
			if got := poly.Add(a, a); len(got) != 0 {
				t.Errorf("Add(%v, itself) = %v, want none", a, got)
			}
		}
	}
}

// P3.1: Mul.

func TestMulMultipliesEachFactorWithEach(t *testing.T) {
	for _, k := range both {
		for _, c := range []struct{ a, b, want list }{
			{nil, nil, nil}, {nil, list{1}, nil}, {list{1, 2}, nil, nil}, {list{0, 0}, list{1, 2}, nil}, {list{1, 2}, list{1024}, nil},
			{list{1, 1}, list{1, 1}, list{1, 0, 1}},
			{list{1}, list{5, 6}, list{5, 6}}, {list{0, 1}, list{5, 6}, list{0, 5, 6}}, {list{2}, list{512, 1}, list{9, 2}},
			{list{1, 1}, list{1, 1, 1}, list{1, 0, 0, 1}}, {list{2, 1}, list{4, 1}, list{8, 6, 1}}, {list{3, 3}, list{3}, list{5, 5}},
			// Noughts at the end, and beyond the symbols.
			{list{1, 1, 0, 0}, list{1, 1, 0}, list{1, 0, 1}}, {list{1025, 1, 1024}, list{1, 2049, 2048}, list{1, 0, 1}},
		} {
			if got := poly.Mul(k.t, c.a, c.b); !slices.Equal(got, c.want) {
				t.Errorf("%s: Mul(%v, %v) = %v, want %v", k.name, c.a, c.b, got, c.want)
			}
		}
		for n := range 24 {
			for m := range 24 {
				a, b := some(n, uint32(m)), noughts(some(m, uint32(n+100)), m%3)
				if got, want := poly.Mul(k.t, a, b), product(a, b); !slices.Equal(got, want) {
					t.Errorf("%s: Mul(%v, %v) = %v, want %v", k.name, a, b, got, want)
				}
			}
		}
	}
}

func TestMulTellsNoProductOfMoreThan4096Factors(t *testing.T) {
	k := field.Make()
	for _, c := range []struct{ n, m, want int }{
		{4096, 1, 4096}, {1, 4096, 4096}, {4095, 2, 4096}, {2, 4095, 4096}, {2048, 2049, 4096}, {2049, 2048, 4096},
		{4097, 1, 0}, {1, 4097, 0}, {4096, 2, 0}, {2, 4096, 0}, {2049, 2049, 0}, {4096, 4096, 0}, {20000, 3, 0}, {100000, 100000, 0},
	} {
		a, b := full(c.n, 1), full(c.m, 2)
		got := poly.Mul(k, a, b)
		if len(got) != c.want {
			t.Errorf("%d by %d factors: %d, want %d", c.n, c.m, len(got), c.want)
		}
		if c.want > 0 && !slices.Equal(got, product(a, b)) {
			t.Errorf("%d by %d factors: another product", c.n, c.m)
		}
	}
}

func TestMulCountsNoNoughtsAtTheEnd(t *testing.T) {
	k := field.Make()
	for _, c := range []struct{ n, m, want int }{{4096, 1, 4096}, {1, 4096, 4096}, {2048, 2049, 4096}, {3, 5, 7}, {2049, 2049, 0}} {
		a, b := full(c.n, 1), full(c.m, 2)
		if got := poly.Mul(k, noughts(a, 5000), noughts(b, 7000)); len(got) != c.want || c.want > 0 && !slices.Equal(got, product(a, b)) {
			t.Errorf("%d by %d factors and noughts: %d, want %d", c.n, c.m, len(got), c.want)
		}
	}
}

// P3.1: Div.

func TestDivTellsQuotientAndRest(t *testing.T) {
	for _, k := range both {
		for _, c := range []struct{ a, b, quotient, rest list }{
			{nil, list{1}, nil, nil}, {list{0, 0}, list{5, 6}, nil, nil}, {list{5, 6}, list{1}, list{5, 6}, nil},
			{list{1, 0, 1}, list{1, 1}, list{1, 1}, nil}, {list{0, 0, 1}, list{1, 1}, list{1, 1}, list{1}}, {list{1, 0, 0, 1}, list{1, 1}, list{1, 1, 1}, nil},
			{list{9, 2}, list{2}, list{512, 1}, nil}, {list{1}, list{2}, list{516}, nil}, {list{8, 6, 1}, list{2, 1}, list{4, 1}, nil},
			// Of a lesser degree: all of it is rest.
			{list{7}, list{0, 1}, nil, list{7}}, {list{7, 8}, list{1, 2, 3}, nil, list{7, 8}}, {list{7, 8, 0, 0, 0}, list{1, 2, 3}, nil, list{7, 8}},
			// Of the same one.
			{list{7, 8}, list{7, 8}, list{1}, nil}, {list{6, 8}, list{7, 8}, list{1}, list{1}},
			// Noughts within the quotient, and within the rest.
			{list{1, 0, 0, 1, 0, 5}, list{0, 0, 1}, list{0, 1, 0, 5}, list{1}}, {list{1, 0, 3, 1}, list{0, 0, 0, 1}, list{1}, list{1, 0, 3}},
			{list{0, 0, 0, 6}, list{0, 3}, list{0, 0, 2}, nil},
			// Noughts at the end, and beyond the symbols.
			{list{1, 0, 1, 0}, list{1, 1, 0, 0}, list{1, 1}, nil}, {list{1024, 2048, 1025, 1024}, list{1025, 64513, 64512}, list{1, 1}, list{1}},
			{list{1031, 1024}, list{1024, 1025}, nil, list{7}},
		} {
			quotient, rest, ok := poly.Div(k.t, c.a, c.b)
			if !ok || !slices.Equal(quotient, c.quotient) || !slices.Equal(rest, c.rest) {
				t.Errorf("%s: Div(%v, %v) = %v, %v, %v, want %v, %v", k.name, c.a, c.b, quotient, rest, ok, c.quotient, c.rest)
			}
		}
	}
}

func TestDivUndoesMul(t *testing.T) {
	for _, k := range both {
		for n := range 24 {
			for m := 1; m < 24; m++ {
				a, b := some(n, uint32(m)), full(m, uint32(n+100))
				for _, by := range []list{b, noughts(b, 4)} {
					quotient, rest, ok := poly.Div(k.t, noughts(a, m%4), by)
					// Only one quotient and one rest are so.
					if !ok || len(rest) >= m || !slices.Equal(sum(product(quotient, b), rest), plain(a)) {
						t.Fatalf("%s: Div(%v, %v) = %v, %v, %v", k.name, a, by, quotient, rest, ok)
					}
					if !slices.Equal(quotient, plain(quotient)) || !slices.Equal(rest, plain(rest)) {
						t.Fatalf("%s: Div(%v, %v) = %v, %v: not trimmed", k.name, a, by, quotient, rest)
					}
				}
			}
		}
	}
}

func TestDivByNoughtIsNone(t *testing.T) {
	for _, k := range both {
		for _, a := range []list{nil, {0}, {1}, {1, 2, 3}, some(50, 1)} {
			for _, b := range []list{nil, {}, {0}, {0, 0, 0}, {1024}, {0, 2048, 64512}} {
				if quotient, rest, ok := poly.Div(k.t, a, b); len(quotient) != 0 || len(rest) != 0 || ok {
					t.Errorf("%s: Div(%v, %v) = %v, %v, %v, want none, none, false", k.name, a, b, quotient, rest, ok)
				}
			}
		}
	}
}

func TestDivOfMoreFactorsThanAProductHas(t *testing.T) {
	k := field.Make()
	for _, m := range []int{1, 2, 17, 5000, 6000, 6001} {
		a, b := full(6000, 1), full(m, 2)
		quotient, rest, ok := poly.Div(k, a, b)
		if !ok || len(quotient) != max(6000-m+1, 0) || len(rest) >= m || !slices.Equal(sum(product(quotient, b), rest), plain(a)) {
			t.Errorf("6000 by %d factors: %d, a rest of %d, %v", m, len(quotient), len(rest), ok)
		}
	}
}

// P3.1: At.

func TestAtTellsTheValue(t *testing.T) {
	for _, k := range both {
		for _, c := range []struct {
			p       list
			x, want uint16
		}{
			{nil, 0, 0}, {nil, 5, 0}, {list{0, 0}, 5, 0}, {list{7}, 0, 7}, {list{7}, 5, 7},
			{list{7, 8, 9}, 0, 7}, {list{7, 8, 9}, 1, 6}, {list{0, 1}, 77, 77}, {list{1, 1}, 1, 0},
			{list{3, 2}, 512, 10}, {list{1, 2, 3}, 2, 9}, {list{0, 0, 1}, 32, 9}, {list{3, 2, 0, 0}, 512, 10},
			// Modulo 1024, the factors and x.
			{list{1024 + 7}, 3, 7}, {list{1024}, 3, 0}, {list{3, 2}, 1024 + 512, 10}, {list{7, 8, 9}, 1024, 7}, {list{64512 + 3, 1026, 2048}, 64512 + 512, 10},
		} {
			if got := poly.At(k.t, c.p, c.x); got != c.want {
				t.Errorf("%s: At(%v, %d) = %d, want %d", k.name, c.p, c.x, got, c.want)
			}
		}
	}
}

func TestAtSumsUpThePowers(t *testing.T) {
	for _, k := range both {
		for n := range 40 {
			p := some(n, uint32(n))
			for x := 0; x < 1<<16; x += 997 {
				want := uint16(0)
				for i, f := range p {
					want ^= k.t.Mul(f, k.t.Pow(uint16(x), i))
				}
				if got := poly.At(k.t, p, uint16(x)); got != want {
					t.Fatalf("%s: At(%v, %d) = %d, want %d", k.name, p, x, got, want)
				}
			}
		}
	}
}

func TestAtIsNoughtAtTheRoots(t *testing.T) {
	k := field.Make()
	p := list{1}
	for i := range 16 {
		p = poly.Mul(k, p, list{k.Exp(i + 1), 1})
	}
	if len(p) != 17 {
		t.Fatalf("%d factors, want 17", len(p))
	}
	for n := range 1023 {
		if got, root := poly.At(k, p, k.Exp(n)) == 0, n >= 1 && n <= 16; got != root {
			t.Errorf("at Exp(%d): nought is %v, want %v", n, got, root)
		}
	}
}

// P3.1: Slope.

func TestSlopeTellsTheDerivative(t *testing.T) {
	for _, c := range []struct{ p, want list }{
		{nil, nil}, {list{0}, nil}, {list{7}, nil}, {list{7, 5}, list{5}}, {list{0, 0, 1}, nil}, {list{7, 0, 3}, nil},
		{list{1, 2, 3, 4, 5, 6}, list{2, 0, 4, 0, 6}}, {list{1, 2, 3, 4, 5}, list{2, 0, 4}}, {list{0, 0, 0, 9}, list{0, 0, 9}},
		// What is trimmed is the slope.
		{list{0, 1, 9, 0, 9}, list{1}}, {list{3, 0, 9, 0, 9, 0}, nil},
		// Modulo 1024.
		{list{1, 1024 + 5}, list{5}}, {list{1, 1024, 1024}, nil}, {list{3, 4, 5, 1024}, list{4}}, {list{0, 2048, 0, 65535}, list{0, 0, 1023}},
	} {
		if got := poly.Slope(c.p); !slices.Equal(got, c.want) {
			t.Errorf("Slope(%v) = %v, want %v", c.p, got, c.want)
		}
	}
}

func TestSlopeOfAProduct(t *testing.T) {
	k := field.Make()
	for n := range 20 {
		for m := range 20 {
			a, b := some(n, uint32(m)), some(m, uint32(n+100))
			got, want := poly.Slope(product(a, b)), sum(product(poly.Slope(a), b), product(a, poly.Slope(b)))
			if !slices.Equal(got, want) {
				t.Errorf("Slope(%v) = %v, want %v", poly.Mul(k, a, b), got, want)
			}
		}
	}
}

// All of P3.1, and the rules that hold everywhere.

// ways are all calls that answer lists, of two lists: those that take one take a.
var ways = []struct {
	name string
	call func(a, b list) []list
}{
	{"Trim", func(a, b list) []list { return []list{poly.Trim(a)} }},
	{"Add", func(a, b list) []list { return []list{poly.Add(a, b)} }},
	{"Mul", func(a, b list) []list { return []list{poly.Mul(field.Make(), a, b)} }},
	{"Slope", func(a, b list) []list { return []list{poly.Slope(a)} }},
	{"Div", func(a, b list) []list {
		quotient, rest, _ := poly.Div(field.Make(), a, b)
		return []list{quotient, rest}
	}},
}

// pairs are lists, each with spare room, in which something stands.
func pairs() [][2]list {
	var l [][2]list
	for _, n := range []int{0, 1, 2, 5, 9, 16} {
		for _, m := range []int{0, 1, 2, 5, 9, 16} {
			a, b := noughts(some(n+8, uint32(m)), 2), noughts(some(m+8, uint32(n+100)), 2)
			l = append(l, [2]list{a[:n], b[:m]})
		}
	}
	return l
}

// whole is p with its spare room.
func whole(p list) list {
	return p[:cap(p)]
}

func TestAllAnswersAreTrimmed(t *testing.T) {
	for _, w := range ways {
		for _, p := range pairs() {
			for i, got := range w.call(p[0], p[1]) {
				if !slices.Equal(got, plain(got)) {
					t.Errorf("%s of %v and %v: answer %d is %v", w.name, p[0], p[1], i, got)
				}
			}
		}
	}
}

func TestListsHandedInAreNotChanged(t *testing.T) {
	for _, w := range ways {
		for _, p := range pairs() {
			a, b := slices.Clone(whole(p[0])), slices.Clone(whole(p[1]))
			for _, got := range w.call(p[0], p[1]) {
				for i := range whole(got) { // nor by what becomes of the answer
					whole(got)[i] ^= 77
				}
			}
			poly.At(field.Make(), p[0], 5)
			if !slices.Equal(whole(p[0]), a) || !slices.Equal(whole(p[1]), b) {
				t.Errorf("%s of %v and %v: they are other ones behind it", w.name, p[0], p[1])
			}
		}
	}
}

func TestAnswersShareNoMemory(t *testing.T) {
	for _, p := range pairs() {
		quotient, rest, _ := poly.Div(field.Make(), p[0], p[1])
		was := slices.Clone(rest)
		for i := range whole(quotient) {
			whole(quotient)[i] ^= 77
		}
		if !slices.Equal(rest, was) {
			t.Errorf("Div(%v, %v): the rest changes with the quotient", p[0], p[1])
		}
		was = slices.Clone(quotient)
		for i := range whole(rest) {
			whole(rest)[i] ^= 77
		}
		if !slices.Equal(quotient, was) {
			t.Errorf("Div(%v, %v): the quotient changes with the rest", p[0], p[1])
		}
	}
	for _, w := range ways {
		for _, p := range pairs() {
			first, again := w.call(p[0], p[1]), w.call(p[0], p[1])
			for i, got := range first {
				was := slices.Clone(again[i])
				for j := range whole(got) {
					whole(got)[j] ^= 77
				}
				if !slices.Equal(again[i], was) {
					t.Errorf("%s of %v and %v: two calls' answers are one", w.name, p[0], p[1])
				}
			}
		}
	}
}

func TestOneListCanBeBothArguments(t *testing.T) {
	k := field.Make()
	for n := 1; n < 20; n++ {
		p := full(n, uint32(n))
		if got, want := poly.Mul(k, p, p), product(p, p); !slices.Equal(got, want) {
			t.Errorf("Mul(%v, itself) = %v, want %v", p, got, want)
		}
		if quotient, rest, ok := poly.Div(k, p, p); !ok || !slices.Equal(quotient, list{1}) || len(rest) != 0 {
			t.Errorf("Div(%v, itself) = %v, %v, %v, want [1], none, true", p, quotient, rest, ok)
		}
	}
}
