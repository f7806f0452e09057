package dyad

import (
	"cmp"
	"math"
	"math/bits"
	"slices"
	"strconv"
	"strings"
)

// A whole is a whole number of any size: whether it is below 0, and its size in digits of 64 bits, the lowest first, with none at the end that is 0. A list of digits is never written once a whole has it, so that several may share it.
type whole struct {
	below bool
	size  []uint64
}

const wordBits = 64

func wholeOf(n int) whole {
	size := uint64(n)
	if n < 0 {
		size = -size
	}
	return whole{n < 0, trim([]uint64{size})}
}

// trim answers l without the digits at its end that are 0; it is cut with its room, so that nothing can be appended into what is cut off.
func trim(l []uint64) []uint64 {
	n := len(l)
	for n > 0 && l[n-1] == 0 {
		n--
	}
	return l[:n:n]
}

func (a whole) sign() int {
	switch {
	case len(a.size) == 0:
		return 0
	case a.below:
		return -1
	}
	return 1
}

func (a whole) minus() whole { return whole{a.sign() > 0, a.size} }

func (a whole) plus(b whole) whole { return sum([]whole{a, b}, []int{0, 0}) }

// cmp answers -1, 0 or 1, as a is less than b, as great, or greater.
func (a whole) cmp(b whole) int {
	sign := a.sign()
	if c := cmp.Compare(sign, b.sign()); c != 0 {
		return c
	}
	if c := cmp.Compare(len(a.size), len(b.size)); c != 0 {
		return sign * c
	}
	for i := len(a.size) - 1; i >= 0; i-- {
		if c := cmp.Compare(a.size[i], b.size[i]); c != 0 {
			return sign * c
		}
	}
	return 0
}

// width answers how many binary digits a's size has.
func (a whole) width() int {
	n := len(a.size)
	if n == 0 {
		return 0
	}
	return n*wordBits - bits.LeadingZeros64(a.size[n-1])
}

// evens answers how often a can be halved; a isn't 0.
func (a whole) evens() int {
	n := slices.IndexFunc(a.size, func(w uint64) bool { return w != 0 })
	return n*wordBits + bits.TrailingZeros64(a.size[n])
}

// halved answers a divided by 2^n, where that is whole.
func (a whole) halved(n int) whole {
	if n == 0 {
		return a
	}
	l := make([]uint64, (a.width()-n+wordBits-1)/wordBits)
	for i := range l {
		l[i] = a.window(n + i*wordBits)
	}
	return whole{a.below, trim(l)}
}

// window answers the 64 binary digits of a's size from place n on.
func (a whole) window(n int) uint64 {
	i, s := n/wordBits, n%wordBits
	var w uint64
	if i < len(a.size) {
		w = a.size[i] >> s
	}
	if i+1 < len(a.size) {
		w |= a.size[i+1] << (wordBits - s)
	}
	return w
}

// clamp answers a, or the nearest number from low to high.
func (a whole) clamp(low, high int) int {
	n := math.MaxInt
	if len(a.size) == 0 {
		n = 0
	} else if len(a.size) == 1 && a.size[0] < math.MaxInt {
		n = int(a.size[0])
	}
	if a.below {
		n = -n
	}
	return min(max(n, low), high)
}

// sum answers the sum of all l, each times 2 to the power at its place.
func sum(l []whole, powers []int) whole {
	room := 0
	for i, a := range l {
		room = max(room, powers[i]+a.width())
	}
	words := room/wordBits + 2 // the sum has less than 64 digits more than the greatest
	above, below := make([]uint64, words), make([]uint64, words)
	for i, a := range l {
		if a.below {
			add(below, a.size, powers[i])
		} else {
			add(above, a.size, powers[i])
		}
	}
	return difference(above, below)
}

// add adds b times 2^power to l, which has room for it.
func add(l, b []uint64, power int) {
	at, s := power/wordBits, power%wordBits
	var carry, behind uint64
	for _, w := range b {
		l[at], carry = bits.Add64(l[at], w<<s|behind, carry)
		behind = w >> (wordBits - s)
		at++
	}
	for rest := behind; rest != 0 || carry != 0; at++ {
		l[at], carry = bits.Add64(l[at], rest, carry)
		rest = 0
	}
}

// difference answers a less b, two lists as long as one another, and writes a.
func difference(a, b []uint64) whole {
	var borrow uint64
	for i := range a {
		a[i], borrow = bits.Sub64(a[i], b[i], borrow)
	}
	if borrow == 0 {
		return whole{false, trim(a)}
	}
	carry := uint64(1) // what came out is 2^(64 len(a)) less the size
	for i := range a {
		a[i], carry = bits.Add64(^a[i], 0, carry)
	}
	return whole{true, trim(a)}
}

// times answers a times b; neither is 0.
func (a whole) times(b whole) whole {
	l := make([]uint64, len(a.size)+len(b.size))
	for i, w := range a.size {
		to := i + len(b.size)
		l[to] = addTimes(l[i:to:to], b.size, w)
	}
	return whole{a.below != b.below, trim(l)}
}

// addTimes adds b times w to l, a list as long as b, and answers the digit that is carried beyond it.
func addTimes(l, b []uint64, w uint64) uint64 {
	var over uint64
	for i, v := range b {
		high, low := bits.Mul64(v, w)
		low, more := bits.Add64(low, over, 0)
		high += more
		l[i], more = bits.Add64(l[i], low, 0)
		over = high + more
	}
	return over
}

// text answers a in decimal digits, with its sign, if that is -.
func (a whole) text() string {
	const chunk, chunkWidth = 1e19, 19 // as many digits as a word holds
	if len(a.size) == 0 {
		return "0"
	}
	var chunks []string
	for rest := slices.Clone(a.size); len(rest) > 0; rest = trim(rest) {
		var digits uint64
		for i := len(rest) - 1; i >= 0; i-- {
			rest[i], digits = bits.Div64(digits, rest[i], chunk)
		}
		s := strconv.FormatUint(digits, 10)
		chunks = append(chunks, strings.Repeat("0", chunkWidth-len(s))+s)
	}
	slices.Reverse(chunks)
	s := strings.TrimLeft(strings.Join(chunks, ""), "0")
	if a.below {
		return minus + s
	}
	return s
}
