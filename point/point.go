// Package point lays symbols out as points of the complex plane: see DOC.md, chapter 1.
package point

const (
	bits = 5           // of a symbol, for each part of its point
	top  = 1<<bits - 1 // the greatest number of so many bits, and the last odd number of a side
)

// Of is the point of s, modulo 1024.
func Of(s uint16) complex128 {
	return complex(level(s>>bits), level(s))
}

// level is the part of a point that the lowest bits of n stand for.
func level(n uint16) float64 {
	return float64(2*int(n&top) - top)
}

// Slice is the symbol whose point is nearest to p, in each part by itself.
func Slice(p complex128) uint16 {
	return nearest(real(p))<<bits | nearest(imag(p))
}

// nearest is the bits whose level is nearest to x: of two as near, the upper ones.
func nearest(x float64) uint16 {
	n := 16 + x/2
	// Held against both ends ahead of the conversion: Go leaves open what it makes of a number out of its range, or of none.
	switch {
	case n >= top:
		return top
	case n > 0:
		return uint16(n) // above 0, to cut off is to round down
	}
	return 0
}

// Grid tells whether p is the point of a symbol.
func Grid(p complex128) bool {
	return p == Of(Slice(p))
}

// Off is how far, and which way, p lies from the point of s.
func Off(s uint16, p complex128) complex128 {
	return p - Of(s)
}

// Gray is s, modulo 1024, so numbered that points beside one another differ in one bit.
func Gray(s uint16) uint16 {
	return gray(s>>bits&top)<<bits | gray(s&top)
}

// gray is the reflected number of n. Each part is taken alone, as a shift of the whole would carry a bit of the real part into the imaginary one.
func gray(n uint16) uint16 {
	return n ^ n>>1
}
