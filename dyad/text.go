package dyad

import (
	"iter"
	"strings"

	"straightedge/api"
)

const (
	minus       = "-"
	between     = "p"  // stands between m and e
	mostHexes   = 4096 // of m, in a text that Parse takes
	hexBits     = 4
	mostDigits  = 7 // of 2^20, in decimal
	wordInHexes = wordBits / hexBits
)

// Text answers d's text: m in hexadecimal digits, p, and e in decimal ones.
func (d D) Text() string {
	if d.Sign() == 0 {
		return "0"
	}
	var b strings.Builder
	if d.Sign() < 0 {
		b.WriteString(minus)
	}
	for i := (d.m.width() - 1) / hexBits; i >= 0; i-- {
		b.WriteByte(hexes[d.m.window(i*hexBits)&(1<<hexBits-1)])
	}
	return b.String() + between + d.e.text()
}

// Parse answers the number whose Text is s.
func Parse(s string) (D, api.Errno) {
	if s == "0" {
		return D{}, api.OK
	}
	rest, below := strings.CutPrefix(s, minus)
	m, e, _ := strings.Cut(rest, between)
	size, right := odd(m)
	power, rightToo := exponent(e)
	if !right || !rightToo {
		return D{}, api.ErrForm
	}
	return D{whole{below, size}, wholeOf(power)}, api.OK
}

// odd answers the digits of the odd number whose hexadecimal digits are s, without noughts ahead, and true; false, if there is none.
func odd(s string) ([]uint64, bool) {
	if len(s) == 0 || len(s) > mostHexes || s[0] == '0' {
		return nil, false
	}
	l := make([]uint64, len(s)/wordInHexes+1)
	for place, c := range fromEnd(s) {
		worth := strings.IndexByte(hexes, c)
		if worth < 0 {
			return nil, false
		}
		l[place/wordInHexes] |= uint64(worth) << (place % wordInHexes * hexBits)
	}
	return trim(l), l[0]&1 == 1
}

// exponent answers the number from -2^20 to 2^20 whose decimal digits are s, with its sign, if that is - , and true; false, if there is none.
func exponent(s string) (int, bool) {
	if s == "0" {
		return 0, true
	}
	s, below := strings.CutPrefix(s, minus)
	if len(s) == 0 || len(s) > mostDigits || s[0] == '0' {
		return 0, false
	}
	n, unit := 0, 1
	for _, c := range fromEnd(s) {
		worth := strings.IndexByte(decimals, c)
		if worth < 0 {
			return 0, false
		}
		n, unit = n+worth*unit, unit*10
	}
	if below {
		n = -n
	}
	return n, -farthest <= n && n <= farthest
}

// fromEnd goes through a text's bytes from the last one on, each with its place from the end: that of a digit's worth.
func fromEnd(s string) iter.Seq2[int, byte] {
	return func(yield func(int, byte) bool) {
		for place := range len(s) {
			if !yield(place, s[len(s)-1-place]) {
				return
			}
		}
	}
}
