// Package num is layer 1, floats by their bits: see shared/doc/01-num.md.
package num

import (
	"math"
	"math/bits"

	"straightedge/api"
)

// How a float's 64 bits are laid out: a sign, 11 bits of exponent, 52 of fraction.
const (
	fraction = 52
	bias     = 1023
	lead     = 1 << fraction      // the digit ahead of the fraction, which a normal number doesn't store
	greatest = 1023               // the Exp of the greatest finite numbers
	normal   = -1022              // the Exp of the least normal ones
	least    = normal - fraction  // the Exp of the least number above 0
	span     = greatest - least   // how far apart the Exps of two finite numbers can be
	signBit  = 1 << 63            // set in numbers below 0, and in -0
	infinity = 2047 << fraction   // the bits of +Inf
	hexes    = "0123456789abcdef" // the digits of Hex, each at the place of its worth
	hexWidth = 16                 // how many of them a float has
)

// Same tells whether a and b have the same bits, or both are NaN.
func Same(a, b float64) bool {
	return math.Float64bits(a) == math.Float64bits(b) || a != a && b != b
}

// Finite tells whether no number of l is an infinity or a NaN.
func Finite(l ...float64) bool {
	for _, x := range l {
		if math.Float64bits(x)&infinity == infinity {
			return false
		}
	}
	return true
}

// Exp answers the k for which |x| is at least 2^k and less than 2^(k+1); 0 where there is none.
func Exp(x float64) int {
	if x == 0 || !Finite(x) {
		return 0
	}
	_, e := digits(x)
	return e + fraction
}

// Two answers 2^k.
func Two(k int) float64 { return Scale(1, k) }

// Scale answers the number that is nearest to x times 2^k.
func Scale(x float64, k int) float64 {
	if x == 0 || !Finite(x) {
		return x
	}
	// Beyond these bounds no answer changes, and within them e + k doesn't go round.
	k = min(max(k, -span-2), span+2)
	m, e := digits(x)
	return math.Float64frombits(math.Float64bits(x)&signBit | join(m, e+k))
}

// Up answers the least number that is greater than x.
func Up(x float64) float64 {
	b := math.Float64bits(x)
	switch {
	case x != x || b == infinity:
		return x
	case x == 0: // the bits of -0 are not beside those of 2^-1074
		return math.Float64frombits(1)
	case x < 0:
		return math.Float64frombits(b - 1)
	}
	return math.Float64frombits(b + 1)
}

// Down answers the greatest number that is less than x: minus Up of minus x.
func Down(x float64) float64 { return -Up(-x) }

// Hex answers the sixteen hexadecimal digits of x's bits.
func Hex(x float64) string {
	var text [hexWidth]byte
	b := math.Float64bits(x)
	for i := range text {
		text[i] = hexes[b>>(60-4*i)&15]
	}
	return string(text[:])
}

// Parse answers the number whose Hex is s.
func Parse(s string) (float64, api.Errno) {
	if len(s) != hexWidth {
		return 0, api.ErrForm
	}
	var b uint64
	for i := range len(s) {
		worth, ok := hexWorth(s[i])
		if !ok {
			return 0, api.ErrForm
		}
		b = b<<4 | worth
	}
	return math.Float64frombits(b), api.OK
}

func hexWorth(c byte) (uint64, bool) {
	switch {
	case '0' <= c && c <= '9':
		return uint64(c - '0'), true
	case 'a' <= c && c <= 'f':
		return uint64(c-'a') + 10, true
	}
	return 0, false
}

// digits answers the m of 53 binary digits and the e for which |x| is m times 2^e; x is finite and not 0.
func digits(x float64) (m uint64, e int) {
	b := math.Float64bits(x) &^ signBit
	if b >= lead {
		return b&(lead-1) | lead, int(b>>fraction) - bias - fraction
	}
	short := fraction + 1 - bits.Len64(b)
	return b << short, least - short
}

// join answers the bits of the number above 0 that is nearest to m times 2^e, where m has 53 binary digits.
func join(m uint64, e int) uint64 {
	switch top := e + fraction; {
	case top > greatest:
		return infinity
	case top >= normal:
		return uint64(top+bias)<<fraction | m&(lead-1)
	}
	return cut(m, least-e)
}

// cut answers m divided by 2^n, n above 0, rounded to the nearest, ties to even. What is rounded up to 2^52 is the bits of 2^-1022, as it should be.
func cut(m uint64, n int) uint64 {
	if n > fraction+1 { // m is less than the half, which may not even go into 64 bits
		return 0
	}
	kept, rest, half := m>>n, m&(1<<n-1), uint64(1)<<(n-1)
	if rest > half || rest == half && kept&1 == 1 {
		kept++
	}
	return kept
}
