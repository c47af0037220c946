package field_test

import (
	"go/ast"
	"go/parser"
	"go/token"
	"math"
	"os"
	"strings"
	"testing"

	"blackboard/field"
)

const (
	symbols = 1024
	round   = 1023
)

// both are tables that were made, and tables that nobody made: all that is promised holds for either.
var both = []struct {
	name string
	t    field.Tables
}{
	{"made", field.Make()},
	{"zero", field.Tables{}},
}

// product multiplies polynomials over two elements, and takes the rest modulo x^10 + x^3 + 1 by long division.
func product(a, b uint16) uint16 {
	p := uint32(0)
	for i := range 10 {
		if b>>i&1 == 1 {
			p ^= uint32(a%symbols) << i
		}
	}
	for i := 18; i >= 10; i-- {
		if p>>i&1 == 1 {
			p ^= 0b100_0000_1001 << (i - 10)
		}
	}
	return uint16(p)
}

// inverse looks for what a is 1 with, among all: 0 where there is none.
func inverse(a uint16) uint16 {
	for b := range uint16(symbols) {
		if product(a, b) == 1 {
			return b
		}
	}
	return 0
}

// power multiplies a by squares: n times, or its inverse so often.
func power(a uint16, n int) uint16 {
	times := uint(n)
	if n < 0 {
		a, times = inverse(a), -times // wraps round, so that the least int comes out right too
	}
	p := uint16(1)
	for ; times > 0; times >>= 1 {
		if times&1 == 1 {
			p = product(p, a)
		}
		a = product(a, a)
	}
	return p
}

// far are numbers far beyond the round, and those beside it.
var far = []int{
	1022, 1023, 1024, 2046, 2047, 1 << 20, 1<<20 + 1, 1<<30 - 1, 1 << 30, math.MaxInt - 1, math.MaxInt,
	-1022, -1023, -1024, -2046, -2047, -1 << 20, -1<<20 - 1, -1<<30 + 1, -1 << 30, math.MinInt + 1, math.MinInt,
}

// P2.1: Add.

func TestAddXors(t *testing.T) {
	for _, c := range []struct{ a, b, want uint16 }{
		{0, 0, 0}, {0, 7, 7}, {7, 7, 0}, {5, 3, 6}, {1023, 1, 1022}, {512, 511, 1023},
		// Modulo 1024, one of them or both.
		{1024, 0, 0}, {0, 1024, 0}, {1025, 3, 2}, {3, 1025, 2}, {1023, 2048 + 1, 1022}, {1024 + 5, 2048 + 3, 6}, {65535, 0, 1023}, {65535, 65535, 0}, {1 << 15, 9, 9},
	} {
		if got := field.Add(c.a, c.b); got != c.want {
			t.Errorf("Add(%d, %d) = %d, want %d", c.a, c.b, got, c.want)
		}
	}
	for a := range uint16(symbols) {
		for b := range uint16(symbols) {
			if got := field.Add(a, b); got != a^b {
				t.Fatalf("Add(%d, %d) = %d, want %d", a, b, got, a^b)
			}
		}
	}
}

// P2.1: Mul.

func TestMulOfAFew(t *testing.T) {
	for _, k := range both {
		for _, c := range []struct{ a, b, want uint16 }{
			{0, 0, 0}, {0, 1, 0}, {1023, 0, 0}, {1, 1, 1}, {1, 1023, 1023}, {2, 2, 4}, {3, 3, 5}, {2, 256, 512},
			{2, 512, 9},     // x^10 is x^3 + 1
			{4, 512, 18},    // x^11
			{512, 512, 274}, // x^18 is x^8 and x^4 and x
			{2, 516, 1},     // x and x^9 + x^2
			// Modulo 1024, one of them or both.
			{1024, 5, 0}, {5, 1024, 0}, {1026, 512, 9}, {2, 1536, 9}, {1026, 65024, 9},
		} {
			if got := k.t.Mul(c.a, c.b); got != c.want {
				t.Errorf("%s: Mul(%d, %d) = %d, want %d", k.name, c.a, c.b, got, c.want)
			}
		}
	}
}

func TestMulTellsTheProductOfAllPairs(t *testing.T) {
	for _, k := range both {
		for a := range uint16(symbols) {
			for b := range uint16(symbols) {
				if got, want := k.t.Mul(a, b), product(a, b); got != want {
					t.Fatalf("%s: Mul(%d, %d) = %d, want %d", k.name, a, b, got, want)
				}
			}
		}
	}
}

func TestMulTakesBothModulo1024(t *testing.T) {
	for _, k := range both {
		for a := range 1 << 16 {
			for _, b := range []uint16{0, 1, 2, 513, 1023} {
				want := product(uint16(a%symbols), b)
				for _, more := range []uint16{0, 1024, 2048, 63 * 1024} {
					if got := k.t.Mul(uint16(a), b+more); got != want {
						t.Fatalf("%s: Mul(%d, %d) = %d, want %d", k.name, a, b+more, got, want)
					}
					if got := k.t.Mul(b+more, uint16(a)); got != want {
						t.Fatalf("%s: Mul(%d, %d) = %d, want %d", k.name, b+more, a, got, want)
					}
				}
			}
		}
	}
}

// P2.1: Inv.

func TestInvTellsWhatASymbolIsOneWith(t *testing.T) {
	for _, k := range both {
		for _, c := range []struct{ a, want uint16 }{{1, 1}, {2, 516}, {516, 2}, {1025, 1}, {1026, 516}} {
			if got, ok := k.t.Inv(c.a); got != c.want || !ok {
				t.Errorf("%s: Inv(%d) = %d, %v, want %d", k.name, c.a, got, ok, c.want)
			}
		}
		for a := uint16(1); a < symbols; a++ {
			got, ok := k.t.Inv(a)
			if !ok || got >= symbols || product(a, got) != 1 {
				t.Fatalf("%s: Inv(%d) = %d, %v: together %d", k.name, a, got, ok, product(a, got))
			}
			for _, more := range []uint16{1024, 2048, 63 * 1024} {
				if again, ok := k.t.Inv(a + more); again != got || !ok {
					t.Fatalf("%s: Inv(%d) = %d, %v, want %d", k.name, a+more, again, ok, got)
				}
			}
		}
	}
}

func TestInvOfNoughtIsNone(t *testing.T) {
	for _, k := range both {
		for a := 0; a < 1<<16; a += symbols {
			if got, ok := k.t.Inv(uint16(a)); got != 0 || ok {
				t.Errorf("%s: Inv(%d) = %d, %v, want 0, false", k.name, a, got, ok)
			}
		}
	}
}

// P2.1: Pow.

func TestPowMultipliesSoOften(t *testing.T) {
	for _, k := range both {
		for a := range uint16(symbols) {
			want := uint16(1)
			for n := range 40 {
				if got := k.t.Pow(a, n); got != want {
					t.Fatalf("%s: Pow(%d, %d) = %d, want %d", k.name, a, n, got, want)
				}
				want = product(want, a)
			}
		}
	}
}

func TestPowBelowNoughtMultipliesTheInverse(t *testing.T) {
	for _, k := range both {
		for a := uint16(1); a < symbols; a++ {
			by, want := inverse(a), uint16(1)
			for n := range 40 {
				if got := k.t.Pow(a, -n); got != want {
					t.Fatalf("%s: Pow(%d, %d) = %d, want %d", k.name, a, -n, got, want)
				}
				want = product(want, by)
			}
		}
	}
}

func TestPowGoesRound(t *testing.T) {
	for _, k := range both {
		for _, a := range []uint16{1, 2, 3, 9, 516, 1023} {
			want := power(a, -2*round-5)
			for n := -2*round - 5; n <= 2*round+5; n++ {
				if got := k.t.Pow(a, n); got != want {
					t.Fatalf("%s: Pow(%d, %d) = %d, want %d", k.name, a, n, got, want)
				}
				want = product(want, a)
			}
		}
	}
}

func TestPowFarBeyondTheRound(t *testing.T) {
	for _, k := range both {
		for _, n := range far {
			for a := uint16(1); a < symbols; a += 7 {
				if got, want := k.t.Pow(a, n), power(a, n); got != want {
					t.Fatalf("%s: Pow(%d, %d) = %d, want %d", k.name, a, n, got, want)
				}
			}
		}
	}
}

func TestPowOfNought(t *testing.T) {
	for _, k := range both {
		for a := 0; a < 1<<16; a += symbols {
			if got := k.t.Pow(uint16(a), 0); got != 1 {
				t.Errorf("%s: Pow(%d, 0) = %d, want 1", k.name, a, got)
			}
			// Whole rounds too: there is no round of nought.
			for _, n := range append([]int{1, 2, 10, -1, -2, -10}, far...) {
				if got := k.t.Pow(uint16(a), n); got != 0 {
					t.Errorf("%s: Pow(%d, %d) = %d, want 0", k.name, a, n, got)
				}
			}
		}
	}
}

func TestPowTakesSymbolsModulo1024(t *testing.T) {
	for _, k := range both {
		for a := 1; a < 1<<16; a += 13 {
			for _, n := range []int{0, 1, 2, 500, -1, -3} {
				if got, want := k.t.Pow(uint16(a), n), k.t.Pow(uint16(a%symbols), n); got != want {
					t.Fatalf("%s: Pow(%d, %d) = %d, want %d", k.name, a, n, got, want)
				}
			}
		}
	}
}

// P2.1: Exp and Log.

func TestExpTellsThePowersOfX(t *testing.T) {
	for _, k := range both {
		for _, c := range []struct {
			n    int
			want uint16
		}{
			{0, 1}, {1, 2}, {2, 4}, {9, 512}, {10, 9}, {11, 18}, {18, 274},
			{1022, 516}, {1023, 1}, {1024, 2}, {1033, 9}, {-1, 516}, {-1022, 2}, {-1023, 1}, {-1013, 9}, {-1024, 516},
		} {
			if got := k.t.Exp(c.n); got != c.want {
				t.Errorf("%s: Exp(%d) = %d, want %d", k.name, c.n, got, c.want)
			}
		}
		want := power(2, -3000)
		for n := -3000; n <= 3000; n++ {
			if got := k.t.Exp(n); got != want {
				t.Fatalf("%s: Exp(%d) = %d, want %d", k.name, n, got, want)
			}
			want = product(want, 2)
		}
		for _, n := range far {
			if got, want := k.t.Exp(n), power(2, n); got != want {
				t.Errorf("%s: Exp(%d) = %d, want %d", k.name, n, got, want)
			}
		}
	}
}

func TestExpIsEachSymbolButNoughtOnce(t *testing.T) {
	for _, k := range both {
		var seen [symbols]bool
		for n := range round {
			e := k.t.Exp(n)
			if e == 0 || e >= symbols || seen[e] {
				t.Fatalf("%s: Exp(%d) = %d: no symbol above nought, or told twice", k.name, n, e)
			}
			seen[e] = true
		}
	}
}

func TestLogUndoesExp(t *testing.T) {
	for _, k := range both {
		want := uint16(1)
		for n := range round {
			for _, a := range []uint16{want, want + 1024, want + 63*1024} {
				if got, ok := k.t.Log(a); got != n || !ok {
					t.Fatalf("%s: Log(%d) = %d, %v, want %d", k.name, a, got, ok, n)
				}
			}
			want = product(want, 2)
		}
	}
}

func TestLogOfNoughtIsNone(t *testing.T) {
	for _, k := range both {
		for a := 0; a < 1<<16; a += symbols {
			if got, ok := k.t.Log(uint16(a)); got != 0 || ok {
				t.Errorf("%s: Log(%d) = %d, %v, want 0, false", k.name, a, got, ok)
			}
		}
		// 1 has the logarithm 0, which is not none.
		if got, ok := k.t.Log(1); got != 0 || !ok {
			t.Errorf("%s: Log(1) = %d, %v, want 0, true", k.name, got, ok)
		}
	}
}

// P2.2.

func TestMakeTellsTheSameTablesEachTime(t *testing.T) {
	if field.Make() != field.Make() {
		t.Error("two calls of Make differ")
	}
}

func TestTablesAreHandedDownByValue(t *testing.T) {
	for _, k := range both {
		was := k.t
		ask(k.t)
		if k.t != was {
			t.Errorf("%s: the tables are other ones behind the calls", k.name)
		}
		// A copy stands by itself: what becomes of the one it was taken from is nothing to it.
		other := k.t
		k.t = field.Tables{}
		if got := other.Exp(10); got != 9 {
			t.Errorf("%s: Exp(10) of a copy = %d, want 9", k.name, got)
		}
	}
	// Of no variable at all: only values are needed.
	if a, b := field.Make().Exp(10), (field.Tables{}).Exp(10); a != 9 || b != 9 {
		t.Errorf("Exp(10) = %d and %d, want 9", a, b)
	}
}

// ask calls each method.
func ask(t field.Tables) {
	t.Mul(2, 3)
	t.Inv(2)
	t.Pow(2, 3)
	t.Log(2)
	t.Exp(2)
}

func TestZeroTablesAnswerAsMadeOnes(t *testing.T) {
	made := field.Make()
	for a := range 1 << 12 {
		a := uint16(a)
		// New ones for each call: none is helped by the one ahead of it.
		inv, ok := (field.Tables{}).Inv(a)
		if want, is := made.Inv(a); inv != want || ok != is {
			t.Fatalf("Inv(%d) = %d, %v, want %d, %v", a, inv, ok, want, is)
		}
		log, ok := (field.Tables{}).Log(a)
		if want, is := made.Log(a); log != want || ok != is {
			t.Fatalf("Log(%d) = %d, %v, want %d, %v", a, log, ok, want, is)
		}
		n := 31*int(a) - 50000
		if got, want := (field.Tables{}).Exp(n), made.Exp(n); got != want {
			t.Fatalf("Exp(%d) = %d, want %d", n, got, want)
		}
		if got, want := (field.Tables{}).Pow(a, n), made.Pow(a, n); got != want {
			t.Fatalf("Pow(%d, %d) = %d, want %d", a, n, got, want)
		}
		if got, want := (field.Tables{}).Mul(a, 3*a+1), made.Mul(a, 3*a+1); got != want {
			t.Fatalf("Mul(%d, %d) = %d, want %d", a, 3*a+1, got, want)
		}
	}
}

func TestNothingStandsAtPackageLevel(t *testing.T) {
	names, err := os.ReadDir(".")
	if err != nil {
		t.Fatal(err)
	}
	for _, e := range names {
		if !strings.HasSuffix(e.Name(), ".go") || strings.HasSuffix(e.Name(), "_test.go") {
			continue
		}
		f, err := parser.ParseFile(token.NewFileSet(), e.Name(), nil, 0)
		if err != nil {
			t.Fatal(err)
		}
		for _, d := range f.Decls {
			switch d := d.(type) {
			case *ast.GenDecl:
				if d.Tok == token.VAR {
					t.Errorf("%s: a variable at package level", e.Name())
				}
			case *ast.FuncDecl:
				if d.Recv == nil && d.Name.Name == "init" {
					t.Errorf("%s: work at start-up", e.Name())
				}
			}
		}
	}
}
