package ger_test

import (
	"math"
	"math/big"
	"slices"
	"testing"

	"straightedge/api"
	"straightedge/ger"
	"straightedge/num"
	"straightedge/view"
)

const (
	most  = math.MaxInt
	least = math.MinInt
	top   = math.MaxFloat64
	tiny  = math.SmallestNonzeroFloat64
	guard = -77.5 // what stands between the numbers, beside them and behind the list
)

var (
	inf    = math.Inf(1)
	nan    = math.NaN()
	nought = math.Copysign(0, -1)
)

// two is 2^k.
func two(k int) float64 { return math.Ldexp(1, k) }

// odd are numbers of all kinds.
func odd() []float64 {
	return []float64{
		0, nought, tiny, -3 * tiny, two(-1022), -two(-600), 0.1, -0.5, 1, -1, 1 + two(-52), 1 + two(-30), -1 - two(-29),
		3, -7, 1e16, two(600), -two(970), top, -top, inf, -inf, nan,
	}
}

// laying is a way to lay numbers in a list: vectors with that Inc, matrices with an Ld that is Inc - 1 more than it must be.
type laying struct{ off, inc, after int }

func layings() []laying {
	return []laying{{0, 1, 0}, {3, 1, 2}, {0, 2, 0}, {1, 3, 4}}
}

// list is a list of n numbers and w's, all guards, with guards behind its length.
func list(w laying, n int) []float64 {
	d := slices.Repeat([]float64{guard}, w.off+n+w.after+5)
	return d[:len(d)-5]
}

// laid is a vector of the numbers l, with guards everywhere else.
func laid(w laying, l ...float64) api.Vec {
	n := 0
	if len(l) > 0 {
		n = (len(l)-1)*w.inc + 1
	}
	v := api.Vec{D: list(w, n), Off: w.off, N: len(l), Inc: w.inc}
	for i, x := range l {
		v.D[w.off+i*w.inc] = x
	}
	return v
}

// vec is a vector of the numbers l and no more.
func vec(l ...float64) api.Vec { return laid(laying{inc: 1}, l...) }

// table is a matrix of the numbers l, row by row, with guards everywhere else.
func table(w laying, rows, cols int, l ...float64) api.Mat {
	ld, n := max(1, rows)+w.inc-1, 0
	if rows > 0 && cols > 0 {
		n = (cols-1)*ld + rows
	}
	m := api.Mat{D: list(w, n), Off: w.off, Rows: rows, Cols: cols, Ld: ld}
	for k, x := range l {
		m.D[w.off+k/cols+k%cols*ld] = x
	}
	return m
}

// is looks whether d is want to the last bit, and its memory behind its length as it was.
func is(t *testing.T, what string, d, want []float64) {
	t.Helper()
	if !slices.EqualFunc(d, want, num.Same) {
		t.Errorf("%s: %v, not %v", what, d, want)
	}
	for _, x := range d[len(d):cap(d)] {
		if x != guard {
			t.Errorf("%s: written behind the list: %v", what, x)
		}
	}
}

func errorIs(t *testing.T, what string, got, want api.Errno) {
	t.Helper()
	if got != want {
		t.Errorf("%s: error %d, not %d", what, int(got), int(want))
	}
}

// wrongVecs are vectors that aren't right, each by a thing of its own.
func wrongVecs() []api.Vec {
	d := vec(1, 2, 3, 4, 5, 6).D
	return []api.Vec{
		{},
		{D: d},
		{D: d, N: 2},
		{D: d, N: 2, Inc: -1},
		{D: d, N: -1, Inc: 1},
		{D: d, N: 2, Off: -1, Inc: 1},
		{D: d, Off: -1, Inc: 1},
		{D: d, N: 7, Inc: 1},
		{D: vec(1, 2).D, N: 3, Inc: 1},
		{D: d, N: 3, Inc: 3},
		{D: d, N: 5, Inc: 1 << 62},
		{D: d, N: 2, Off: most, Inc: most},
		{D: d, N: most, Inc: 1},
		{D: d, N: least, Inc: least, Off: least},
		{N: 1, Inc: 1},
	}
}

// wrongMats are matrices that aren't right, each by a thing of its own.
func wrongMats() []api.Mat {
	d := vec(1, 2, 3, 4, 5, 6).D
	return []api.Mat{
		{},
		{D: d},
		{D: d, Rows: 2, Cols: 2},
		{D: d, Rows: 2, Cols: 2, Ld: 1},
		{D: d, Rows: 2, Cols: 2, Ld: -2},
		{D: d, Rows: -1, Cols: 2, Ld: 2},
		{D: d, Rows: 2, Cols: -1, Ld: 2},
		{D: d, Off: -1, Rows: 2, Cols: 2, Ld: 2},
		{D: d, Off: 3, Rows: 2, Cols: 2, Ld: 2},
		{D: d, Rows: 2, Cols: 2, Ld: 5},
		{D: d, Rows: 2, Cols: 4, Ld: 2},
		{D: d, Rows: 2, Cols: 5, Ld: 1 << 62},
		{D: d, Rows: most, Cols: most, Ld: most, Off: most},
		{D: d, Rows: least, Cols: least, Ld: least, Off: least},
		{D: d, Ld: 0, Rows: 0, Cols: 2},
		{Rows: 1, Cols: 1, Ld: 1},
	}
}

// none are vectors that are right, without numbers.
func none() []api.Vec {
	d := vec(1, 2, 3).D
	return []api.Vec{{Inc: 1}, {Inc: most, Off: most}, {D: d, Inc: 1}, {D: d, Inc: 2, Off: 9}, {D: d, Off: most, Inc: most}}
}

// anyFloats are n floats that look like chance and are the same each time: their Exps are about from -wide to wide.
func anyFloats(seed uint64, n, wide int) []float64 {
	l := make([]float64, n)
	for i := range l {
		seed = seed*6364136223846793005 + 1442695040888963407
		x := float64(int64(seed)) / (1 << 63)
		seed = seed*6364136223846793005 + 1442695040888963407
		l[i] = math.Ldexp(x, int(seed>>33)%(2*wide+1)-wide)
	}
	return l
}

// exactly is x, with room for all digits of a sum and a product of floats.
func exactly(x float64) *big.Float { return new(big.Float).SetPrec(5000).SetFloat64(x) }

// times and plus are what IEEE 754 makes of two numbers: exactly, then rounded once. Infinities and NaNs are left to the machine.
func times(x, y float64) float64 {
	if !num.Finite(x, y) {
		return x * y
	}
	p, _ := new(big.Float).SetPrec(5000).Mul(exactly(x), exactly(y)).Float64()
	return p
}

func plus(x, y float64) float64 {
	if x == 0 && y == 0 || !num.Finite(x, y) {
		return x + y // noughts by their signs, of which the exact sum knows another rule
	}
	s, _ := new(big.Float).SetPrec(5000).Add(exactly(x), exactly(y)).Float64()
	return s
}

// numbersOf are the numbers of v.
func numbersOf(v api.Vec) []float64 {
	var l []float64
	for i := range v.N {
		l = append(l, v.D[v.Off+i*v.Inc])
	}
	return l
}

// byRows are the numbers of m, row by row.
func byRows(m api.Mat) []float64 {
	l := make([]float64, 0, m.Rows*m.Cols)
	for i := range m.Rows {
		l = append(l, numbersOf(view.Row(m, i))...)
	}
	return l
}

// problem is what Ger is asked for: m row by row, with as many rows as x has numbers, and as many columns as y.
type problem struct {
	a    float64
	x, y []float64
	m    []float64
}

// want is what the document's words make of p, row by row.
func (p problem) want() []float64 {
	l := slices.Clone(p.m)
	for j, y := range p.y {
		t := times(p.a, y)
		for i, x := range p.x {
			k := i*len(p.y) + j
			l[k] = plus(l[k], times(t, x))
		}
	}
	return l
}

// gerIs looks whether m comes to want, however m, x and y are laid, and nothing else changes.
func gerIs(t *testing.T, what string, p problem, want ...float64) {
	t.Helper()
	rows, cols := len(p.x), len(p.y)
	for _, wm := range layings() {
		for _, wx := range layings() {
			for _, wy := range layings() {
				x, y, m := laid(wx, p.x...), laid(wy, p.y...), table(wm, rows, cols, p.m...)
				errorIs(t, what, ger.Ger(p.a, x, y, m), api.OK)
				is(t, what, m.D, table(wm, rows, cols, want...).D)
				is(t, what+", x", x.D, laid(wx, p.x...).D)
				is(t, what+", y", y.D, laid(wy, p.y...).D)
			}
		}
	}
}

// oneIs is gerIs of one number of each.
func oneIs(t *testing.T, what string, a, x, y, m, want float64) {
	t.Helper()
	gerIs(t, what, problem{a, []float64{x}, []float64{y}, []float64{m}}, want)
}

// P8.1: ordinary products

func TestGer(t *testing.T) {
	gerIs(t, "the document's", problem{1, []float64{1, 2}, []float64{3, 4}, make([]float64, 4)}, 3, 4, 6, 8)
	gerIs(t, "two and three", problem{-1, []float64{1, 2}, []float64{1, 0, 2}, []float64{1, 2, 3, 4, 5, 6}}, 0, 2, 1, 2, 5, 2)
	gerIs(t, "three and two", problem{2, []float64{1, -1, 3}, []float64{5, 7}, []float64{1, 2, 3, 4, 5, 6}}, 11, 16, -7, -10, 35, 48)
	gerIs(t, "one row", problem{0.5, []float64{4}, []float64{1, 2, 3}, []float64{1, 1, 1}}, 3, 5, 7)
	gerIs(t, "one column", problem{0.5, []float64{4, 2, -6}, []float64{3}, []float64{1, 1, 1}}, 7, 4, -8)
	oneIs(t, "one number", 0.5, 3, -4, 10, 4)
}

func TestGerOfNoNumbers(t *testing.T) {
	gerIs(t, "no rows", problem{nan, nil, []float64{1, nan}, nil})
	gerIs(t, "no columns", problem{nan, []float64{1, nan}, nil, nil})
	gerIs(t, "nothing", problem{2, nil, nil, nil})
}

func TestGerOfNoNumbersAnywhere(t *testing.T) {
	d := vec(1, 2, 3).D
	for _, m := range []api.Mat{{Ld: 1}, {D: d, Off: most, Ld: most}, {D: d, Ld: 1}} {
		for _, x := range none() {
			for _, y := range none() {
				errorIs(t, "nothing", ger.Ger(nan, x, y, m), api.OK)
			}
		}
	}
	v := vec(1, 2)
	wide, high := api.Mat{D: v.D, Off: most, Cols: 2, Ld: most}, api.Mat{D: v.D, Off: most, Rows: 2, Ld: most}
	for _, n := range none() {
		errorIs(t, "no rows", ger.Ger(2, n, v, wide), api.OK)
		errorIs(t, "no columns", ger.Ger(2, v, n, high), api.OK)
	}
	is(t, "nothing", d, []float64{1, 2, 3})
	is(t, "what has no numbers to meet", v.D, []float64{1, 2})
}

func TestGerOfOneNumberFarApart(t *testing.T) {
	x, y, m := vec(9, 7, 9), vec(8, 8, 3), vec(6, 6, 5)
	x.Off, x.N, x.Inc, y.Off, y.N, y.Inc = 1, 1, most, 2, 1, 1<<62
	errorIs(t, "one number", ger.Ger(2, x, y, api.Mat{D: m.D, Off: 2, Rows: 1, Cols: 1, Ld: most}), api.OK)
	is(t, "one number", m.D, []float64{6, 6, 47})
}

// P8.1: order and rounding

func TestWhichProductComesFirst(t *testing.T) {
	oneIs(t, "a times y, beyond the greatest", two(600), two(-600), two(600), 0, inf)
	oneIs(t, "a times y, below the least", two(-600), two(600), two(-600), 0, 0)
	oneIs(t, "not a times x", two(600), two(600), two(-600), 0, two(600))
	oneIs(t, "nor x times y", two(-600), two(600), two(600), 0, two(600))
	oneIs(t, "a times y, in the last bits", 0.1, 10, 3, 0, 3+two(-51))
	oneIs(t, "a times x there", 0.1, 3, 10, 0, 3)
	oneIs(t, "the product, then the sum", 1, two(-53), 1, 1, 1)
	oneIs(t, "the product isn't what is there twice", 3, two(-54), 1, 1, 1+two(-52))
}

func TestGerIsNotFused(t *testing.T) {
	x := 1 + two(-30) // its square is 1 + 2^-29 + 2^-60, rounded without the last
	rest := -1 - two(-29)
	oneIs(t, "x and y", 1, x, x, rest, 0)
	oneIs(t, "a and y", x, 1, x, rest, 0)
	oneIs(t, "a and x", x, x, 1, rest, 0)
	oneIs(t, "a and y, then x", x, x, x, 0, times(times(x, x), x))
	oneIs(t, "below 0", -1, x, x, -rest, 0)
	oneIs(t, "a product too great", 1, two(1000), two(24), -top, inf)
	oneIs(t, "a product too small", 1, two(-600), two(-475), tiny, tiny)
	oneIs(t, "a and y too small", two(-600), two(100), two(-475), tiny, tiny)
}

// P8.1: noughts, overflow, underflow, infinities, NaNs

func TestGerOfNoughts(t *testing.T) {
	oneIs(t, "cancels from above", 1, -1, 1, 1, 0)
	oneIs(t, "cancels from below", 1, 1, 1, -1, 0)
	oneIs(t, "cancels at the least number", 1, tiny, -1, tiny, 0)
	oneIs(t, "0 and 0", 1, 0, 5, 0, 0)
	oneIs(t, "-0 and 0", 1, 0, 5, nought, 0)
	oneIs(t, "0 and -0", 1, nought, 5, 0, 0)
	oneIs(t, "-0 and -0 by x", 1, nought, 5, nought, nought)
	oneIs(t, "-0 and -0 by y", 1, 5, nought, nought, nought)
	oneIs(t, "-0 and -0 by a", nought, 5, 5, nought, nought)
	oneIs(t, "-0 and -0 by two signs", -1, 0, 5, nought, nought)
	oneIs(t, "-0 and -0 by what is too small", 1, -two(-600), two(-600), nought, nought)
	oneIs(t, "-0 and 0 by what is too small", 1, two(-600), two(-600), nought, 0)
	oneIs(t, "-0 and 0 by two noughts below 0", nought, 5, nought, nought, 0)
	oneIs(t, "a 0", 0, 5, 7, 3, 3)
	oneIs(t, "a -0, below 0", nought, -5, 7, 3, 3)
}

func TestGerByNought(t *testing.T) {
	for _, zero := range []float64{0, nought} {
		for _, far := range []float64{inf, -inf, nan} {
			gerIs(t, "a 0, x not finite", problem{zero, []float64{1, far}, []float64{1, 2}, []float64{1, 2, 3, 4}}, 1, 2, nan, nan)
			gerIs(t, "a 0, y not finite", problem{zero, []float64{1, 2}, []float64{1, far}, []float64{1, 2, 3, 4}}, 1, nan, 3, nan)
			gerIs(t, "a 0, m not finite", problem{zero, []float64{1, 2}, []float64{1, 2}, []float64{1, far, 3, 4}}, 1, far, 3, 4)
			gerIs(t, "a 0 in y, x not finite", problem{1, []float64{1, far}, []float64{zero, zero}, []float64{1, 2, 3, 4}}, 1, 2, nan, nan)
			gerIs(t, "a 0 in y, m not finite", problem{1, []float64{1, 2}, []float64{zero, 1}, []float64{far, 2, 3, 4}}, far, 3, 3, 6)
			gerIs(t, "a 0 in x, y not finite", problem{1, []float64{1, zero}, []float64{2, far}, []float64{1, 2, 3, 4}}, 3, plus(2, far), 3, nan)
			gerIs(t, "a 0 in x, m not finite", problem{1, []float64{zero, 1}, []float64{2, 3}, []float64{1, far, 3, 4}}, 1, far, 5, 7)
			gerIs(t, "a not finite, 0 in y", problem{far, []float64{1, -1}, []float64{zero}, []float64{1, 2}}, nan, nan)
		}
	}
}

func TestGerThatOverflowsAndUnderflows(t *testing.T) {
	oneIs(t, "a product", 1, two(600), two(600), -top, inf)
	oneIs(t, "a product below 0", 1, two(600), -two(600), top, -inf)
	oneIs(t, "t", two(600), 0, two(600), 1, nan)
	oneIs(t, "a sum", 1, 1, two(970), top, inf)
	oneIs(t, "just not", 1, 1, two(969), top, top)
	oneIs(t, "a sum below 0", -1, 1, top, -top, -inf)
	oneIs(t, "a subnormal product", 1, two(-600), 3*two(-474), tiny, 4*tiny)
	oneIs(t, "a subnormal product that comes below 0", 1, two(-500), -5*two(-574), 3*tiny, -2*tiny)
	oneIs(t, "half the least number, to even", 1, two(-600), two(-475), 0, 0)
	oneIs(t, "three halves of it, to even", 1, 3*two(-600), two(-475), 0, 2*tiny)
	oneIs(t, "t is rounded to a subnormal ahead", two(-600), two(10), 3*two(-475), 0, two(-1063))
	oneIs(t, "a subnormal sum", 1, 1, tiny-two(-1022), two(-1022), tiny)
}

func TestGerOfInfinities(t *testing.T) {
	gerIs(t, "in x", problem{1, []float64{1, inf}, []float64{1, -1}, []float64{1, 2, 3, 4}}, 2, 1, inf, -inf)
	gerIs(t, "in y", problem{1, []float64{1, -1}, []float64{1, inf}, []float64{1, 2, 3, 4}}, 2, inf, 2, -inf)
	gerIs(t, "in m", problem{1, []float64{1, -1}, []float64{1, 1}, []float64{inf, 2, 3, -inf}}, inf, 3, 2, -inf)
	gerIs(t, "as a", problem{-inf, []float64{1, -1}, []float64{1, -1}, []float64{1, 2, 3, 4}}, -inf, inf, inf, -inf)
	gerIs(t, "of both signs", problem{1, []float64{1, -1}, []float64{inf}, []float64{-inf, -inf}}, nan, -inf)
	gerIs(t, "times 0", problem{1, []float64{0, 1}, []float64{inf, 0}, []float64{1, 2, 3, 4}}, nan, 2, inf, 4)
}

func TestGerWithANaNAtEachPlace(t *testing.T) {
	base := func() problem {
		return problem{2, []float64{1, 2, 3}, []float64{1, -1, 0}, []float64{1, 2, 3, 4, 5, 6, 7, 8, 9}}
	}
	sum := []float64{3, 0, 3, 8, 1, 6, 13, 2, 9}
	gerIs(t, "none", base(), sum...)
	for k := range 9 {
		p, want := base(), slices.Clone(sum)
		p.m[k], want[k] = nan, nan
		gerIs(t, "in m", p, want...)
	}
	for k := range 3 {
		p, want := base(), slices.Clone(sum)
		p.x[k], want[3*k], want[3*k+1], want[3*k+2] = nan, nan, nan, nan
		gerIs(t, "in x", p, want...)
		p, want = base(), slices.Clone(sum)
		p.y[k], want[k], want[k+3], want[k+6] = nan, nan, nan, nan
		gerIs(t, "in y", p, want...)
	}
	p := base()
	p.a = nan
	gerIs(t, "as a", p, slices.Repeat([]float64{nan}, 9)...)
}

func TestGerOfAllKinds(t *testing.T) {
	n := len(odd())
	for _, a := range []float64{0, nought, tiny, -0.1, 1, -1, 1 + two(-30), two(600), -top, inf, nan} {
		for _, was := range odd() {
			p := problem{a, odd(), odd(), slices.Repeat([]float64{was}, n*n)}
			m := table(laying{inc: 1}, n, n, p.m...)
			errorIs(t, "all kinds", ger.Ger(a, vec(p.x...), vec(p.y...), m), api.OK)
			is(t, "all kinds", byRows(m), p.want())
		}
	}
}

func TestGerOfManyNumbers(t *testing.T) {
	for rows := range 8 {
		for cols := range 8 {
			for _, wide := range []int{1, 4, 30, 300} {
				seed := uint64(rows*100 + cols*10 + wide)
				p := problem{anyFloats(seed, 1, wide)[0], anyFloats(seed+1, rows, wide), anyFloats(seed+2, cols, wide), anyFloats(seed+3, rows*cols, wide)}
				gerIs(t, "many", p, p.want()...)
			}
		}
	}
	p := problem{anyFloats(1, 1, 1)[0], anyFloats(2, 70, 2), anyFloats(3, 66, 2), anyFloats(4, 70*66, 2)}
	gerIs(t, "more than 64", p, p.want()...)
}

// P8.1: x, y and m in one list

// crosses tells whether the spans from a to b and from c to d have a place in common; one that ends ahead of its beginning has none.
func crosses(a, b, c, d int) bool {
	for p := a; p <= b; p++ {
		if c <= p && p <= d {
			return true
		}
	}
	return false
}

// touches tells whether v's span and m's have a place in common.
func touches(v api.Vec, m api.Mat) bool {
	if v.N == 0 || m.Rows == 0 || m.Cols == 0 {
		return false
	}
	return crosses(v.Off, v.Off+(v.N-1)*v.Inc, m.Off, m.Off+(m.Cols-1)*m.Ld+m.Rows-1)
}

// vectors are all vectors of n numbers within d, of three Inc.
func vectors(d []float64, n int) []api.Vec {
	var all []api.Vec
	for off := range len(d) {
		for inc := 1; inc <= 3; inc++ {
			if v := (api.Vec{D: d, Off: off, N: n, Inc: inc}); view.Right(v) {
				all = append(all, v)
			}
		}
	}
	return all
}

// matrices are all matrices of up to 2 rows and columns within d, of three Ld.
func matrices(d []float64) []api.Mat {
	var all []api.Mat
	for off := range len(d) {
		for rows := range 3 {
			for cols := range 3 {
				for ld := 1; ld <= 3; ld++ {
					if m := (api.Mat{D: d, Off: off, Rows: rows, Cols: cols, Ld: ld}); view.Good(m) {
						all = append(all, m)
					}
				}
			}
		}
	}
	return all
}

func TestGerWithinOneList(t *testing.T) {
	was := []float64{2, -3, 5, 7, -11, 13, 17, -19}
	d := vec(was...).D
	apart := 0
	for _, m := range matrices(d) {
		for _, x := range vectors(d, m.Rows) {
			for _, y := range vectors(d, m.Cols) {
				after, want := slices.Clone(was), api.ErrApart
				if !touches(x, m) && !touches(y, m) {
					want = api.OK
					for k, n := range (problem{3, numbersOf(x), numbersOf(y), byRows(m)}).want() {
						after[m.Off+k/m.Cols+k%m.Cols*m.Ld] = n
					}
					apart += m.Rows * m.Cols
				}
				errorIs(t, "in one list", ger.Ger(3, x, y, m), want)
				is(t, "in one list", d, after)
				copy(d, was)
			}
		}
	}
	if apart == 0 {
		t.Error("none of them were apart")
	}
}

func TestXAndYThatMeet(t *testing.T) {
	l := vec(2, 3, 5, 7)
	for _, c := range []struct {
		what string
		x, y api.Vec
		want []float64
	}{
		{"are one", api.Vec{D: l.D, N: 2, Inc: 1}, api.Vec{D: l.D, N: 2, Inc: 1}, []float64{4, 6, 6, 9}},
		{"share a number", api.Vec{D: l.D, N: 2, Inc: 2}, api.Vec{D: l.D, Off: 2, N: 2, Inc: 1}, []float64{10, 14, 25, 35}},
		{"stand between one another", api.Vec{D: l.D, N: 2, Inc: 2}, api.Vec{D: l.D, Off: 1, N: 2, Inc: 2}, []float64{6, 14, 15, 35}},
	} {
		m := view.Dense(2, 2)
		errorIs(t, c.what, ger.Ger(1, c.x, c.y, m), api.OK)
		is(t, c.what, byRows(m), c.want)
		is(t, c.what, l.D, []float64{2, 3, 5, 7})
	}
}

func TestListsOfTwoLengthsAreOne(t *testing.T) {
	was := []float64{1, 2, 3, 4, 5, 6, 7}
	d := vec(was...).D
	other := vec(1, 1)
	m := api.Mat{D: d, Off: 2, Rows: 2, Cols: 2, Ld: 2}
	short := func(off int) api.Vec { return api.Vec{D: d[:4], Off: off, N: 2, Inc: 1} }
	errorIs(t, "x in the shorter one", ger.Ger(1, short(1), other, m), api.ErrApart)
	errorIs(t, "y in the shorter one", ger.Ger(1, other, short(1), m), api.ErrApart)
	errorIs(t, "m in the shorter one", ger.Ger(1, api.Vec{D: d, Off: 3, N: 2, Inc: 3}, other, api.Mat{D: d[:4], Rows: 2, Cols: 2, Ld: 2}), api.ErrApart)
	is(t, "that meet", d, was)
	errorIs(t, "x and y ahead of m", ger.Ger(1, short(0), short(0), m), api.OK)
	is(t, "x and y ahead of m", d, []float64{1, 2, 4, 6, 7, 10, 7})
}

func TestRowsAndColumnsOfOneMatrix(t *testing.T) {
	m := view.Dense(3, 3, 1, 2, 3, 4, 5, 6, 7, 8, 9)
	corner := view.Part(m, 1, 1, 2, 2)
	below := view.Col(view.Part(m, 1, 0, 2, 1), 0)
	errorIs(t, "a row crosses the columns below it", ger.Ger(-1, below, view.Row(view.Part(m, 0, 1, 1, 2), 0), corner), api.ErrApart)
	is(t, "a row crosses the columns below it", byRows(m), []float64{1, 2, 3, 4, 5, 6, 7, 8, 9})
	errorIs(t, "a column is ahead of the others", ger.Ger(-1, below, vec(2, 3), corner), api.OK)
	is(t, "a column is ahead of the others", byRows(m), []float64{1, 2, 3, 4, -3, -6, 7, -6, -12})
}

// P8.1: errors

func TestErrorsOfGer(t *testing.T) {
	x, y, m := vec(1, 2), vec(1, 2, 3), table(laying{inc: 1}, 2, 3, 1, 2, 3, 4, 5, 6)
	fails := func(what string, x, y api.Vec, m api.Mat, want api.Errno) {
		t.Helper()
		dx, dy, dm := slices.Clone(x.D), slices.Clone(y.D), slices.Clone(m.D)
		for _, a := range []float64{0, 1, 2, nan} {
			errorIs(t, what, ger.Ger(a, x, y, m), want)
		}
		is(t, what+", x", x.D, dx)
		is(t, what+", y", y.D, dy)
		is(t, what+", m", m.D, dm)
	}
	for _, w := range wrongMats() {
		fails("m isn't right", x, y, w, api.ErrArg)
		fails("m isn't right, square", x, x, w, api.ErrArg)
		fails("m isn't right, no numbers", vec(), vec(), w, api.ErrArg)
	}
	for _, w := range wrongVecs() {
		for _, v := range []api.Vec{x, y, vec(), w} {
			fails("x isn't right", w, v, m, api.ErrArg)
			fails("y isn't right", v, w, m, api.ErrArg)
		}
		fails("x isn't right, m has no rows", w, y, api.Mat{Cols: 3, Ld: 1}, api.ErrArg)
		fails("y isn't right, m has no columns", x, w, api.Mat{Rows: 2, Ld: 2}, api.ErrArg)
	}
	for rows := range 4 {
		for cols := range 5 {
			if rows != 2 || cols != 3 {
				fails("N that differ", vec(make([]float64, rows)...), vec(make([]float64, cols)...), m, api.ErrSize)
			}
		}
	}
	fails("turned about", y, x, m, api.ErrSize)
	fails("no rows, but x has numbers", x, y, api.Mat{Cols: 3, Ld: 1}, api.ErrSize)
	fails("no columns, but y has numbers", x, y, api.Mat{Rows: 2, Ld: 2}, api.ErrSize)
}

func TestWhichErrorOfGerComesFirst(t *testing.T) {
	was := []float64{1, 2, 3, 4, 5, 6, 7, 8}
	d := vec(was...).D
	v := func(off, n, inc int) api.Vec { return api.Vec{D: d, Off: off, N: n, Inc: inc} }
	m := func(off, rows, cols, ld int) api.Mat { return api.Mat{D: d, Off: off, Rows: rows, Cols: cols, Ld: ld} }
	for _, c := range []struct {
		what string
		x, y api.Vec
		m    api.Mat
		want api.Errno
	}{
		{"m isn't right, N that differ", v(0, 1, 1), v(0, 5, 1), m(0, 3, 4, 2), api.ErrArg},
		{"x isn't right, y's N differs, y meets m", v(0, 9, 1), v(0, 3, 1), m(0, 2, 2, 2), api.ErrArg},
		{"y isn't right, x' N differs, x meets m", v(0, 3, 1), v(0, 9, 1), m(0, 2, 2, 2), api.ErrArg},
		{"x' N differs, both meet m", v(0, 3, 1), v(0, 2, 1), m(0, 2, 2, 2), api.ErrSize},
		{"y's N differs, both meet m", v(0, 2, 1), v(0, 3, 1), m(0, 2, 2, 2), api.ErrSize},
		{"x' N differs, m has no numbers", v(0, 3, 1), v(0, 2, 1), m(0, 0, 2, 2), api.ErrSize},
		{"x meets m", v(3, 2, 1), v(4, 2, 1), m(0, 2, 2, 2), api.ErrApart},
		{"y meets m", v(4, 2, 1), v(3, 2, 1), m(0, 2, 2, 2), api.ErrApart},
		{"y alone is in m's list", vec(1, 2), v(3, 2, 1), m(0, 2, 2, 2), api.ErrApart},
		{"x alone is in m's list", v(3, 2, 1), vec(1, 2), m(0, 2, 2, 2), api.ErrApart},
		{"x stands between m's columns", v(2, 2, 1), vec(1, 2), m(0, 2, 2, 6), api.ErrApart},
		{"y stands between m's columns", vec(1, 2), v(2, 2, 1), m(0, 2, 2, 6), api.ErrApart},
		{"m stands between x' numbers", v(0, 2, 7), vec(1, 2), m(1, 2, 2, 2), api.ErrApart},
		{"m stands between y's numbers", vec(1, 2), v(0, 2, 7), m(1, 2, 2, 2), api.ErrApart},
	} {
		for _, a := range []float64{0, 2} {
			errorIs(t, c.what, ger.Ger(a, c.x, c.y, c.m), c.want)
		}
	}
	is(t, "beside errors", d, was)
}

// P8.2: Shift

// shiftIs looks whether l, row by row, comes to want by the exponents, however the matrix is laid, and nothing else changes.
func shiftIs(t *testing.T, what string, l []float64, rows, cols []int, want ...float64) {
	t.Helper()
	keptRows, keptCols := slices.Clone(rows), slices.Clone(cols)
	for _, w := range layings() {
		m := table(w, len(rows), len(cols), l...)
		errorIs(t, what, ger.Shift(m, rows, cols), api.OK)
		is(t, what, m.D, table(w, len(rows), len(cols), want...).D)
	}
	if !slices.Equal(rows, keptRows) || !slices.Equal(cols, keptCols) {
		t.Errorf("%s: the exponents are changed: %v and %v", what, rows, cols)
	}
}

// bothIs is shiftIs of a row with these columns' exponents, and of a column with these rows'; the other has the exponent k.
func bothIs(t *testing.T, what string, l []float64, k int, exponents []int, want ...float64) {
	t.Helper()
	shiftIs(t, what+", of a row", l, []int{k}, exponents, want...)
	shiftIs(t, what+", of a column", l, exponents, []int{k}, want...)
}

func TestShift(t *testing.T) {
	shiftIs(t, "two and three", []float64{0, 2, 1, 2, 5, 2}, []int{0, 1}, []int{1, 0, -1}, 0, 2, 0.5, 8, 10, 2)
	shiftIs(t, "three and two", []float64{1, 2, 3, 4, 5, 6}, []int{1, 0, -1}, []int{10, -2}, 2048, 1, 3072, 1, 2560, 0.75)
	shiftIs(t, "each by its own", slices.Repeat([]float64{1}, 9), []int{0, 10, 20}, []int{0, 1, 2}, 1, 2, 4, 1024, 2048, 4096, two(20), two(21), two(22))
	shiftIs(t, "one number", []float64{-0.75}, []int{7}, []int{3}, -768)
	shiftIs(t, "no rows", nil, nil, []int{1, most})
	shiftIs(t, "no columns", nil, []int{1, least}, nil)
	shiftIs(t, "nothing", nil, nil, nil)
	bothIs(t, "by 0", odd(), 0, make([]int, len(odd())), odd()...)
}

func TestShiftOfNoNumbersAnywhere(t *testing.T) {
	d := vec(1, 2, 3).D
	for _, m := range []api.Mat{{Ld: 1}, {D: d, Off: most, Ld: most}, {D: d, Ld: 1}, {D: d, Off: 3, Ld: 7}} {
		errorIs(t, "nothing", ger.Shift(m, nil, nil), api.OK)
		errorIs(t, "nothing", ger.Shift(m, []int{}, []int{}), api.OK)
	}
	errorIs(t, "no rows", ger.Shift(api.Mat{D: d, Off: most, Cols: 2, Ld: 1}, nil, []int{1, 2}), api.OK)
	errorIs(t, "no columns", ger.Shift(api.Mat{D: d, Off: most, Rows: 2, Ld: most}, []int{1, 2}, nil), api.OK)
	is(t, "no numbers", d, []float64{1, 2, 3})
	errorIs(t, "one number", ger.Shift(api.Mat{D: d, Off: 1, Rows: 1, Cols: 1, Ld: most}, []int{1}, []int{2}), api.OK)
	is(t, "one number", d, []float64{1, 16, 3})
}

func TestExponentsWhoseSumIs0(t *testing.T) {
	for _, k := range []int{1, 52, 1074, 1075, 2000, 5000, 1 << 29, 1<<30 - 1, 1 << 30} {
		for _, k := range []int{k, -k} {
			bothIs(t, "there and back, at once", odd(), k, slices.Repeat([]int{-k}, len(odd())), odd()...)
		}
	}
}

func TestShiftBeyondTheGreatestAndBelowTheLeast(t *testing.T) {
	bothIs(t, "up to the greatest", []float64{1, -1, 1 - two(-53), tiny}, 23, []int{1000, 1000, 1001, 2074}, two(1023), -two(1023), top, two(1023))
	bothIs(t, "beyond it", []float64{1, -1, top, tiny, -tiny}, 500, []int{524, 600, -499, 1598, 5000}, inf, -inf, inf, inf, -inf)
	bothIs(t, "back from there", []float64{two(1023), -top}, -1000, []int{-23, -24}, 1, two(-53)-1)
	bothIs(t, "down to the least", []float64{1, -1, 3, top}, -600, []int{-474, -474, -474, 599}, tiny, -tiny, 3*tiny, two(1023)-two(970))
	bothIs(t, "halfway, to even", []float64{3, 1, -1, 5, 7, -3}, -1000, []int{-75, -75, -75, -75, -75, -75}, 2*tiny, 0, nought, 2*tiny, 4*tiny, -2*tiny)
	bothIs(t, "beside the half", []float64{1 + two(-52), 1 - two(-53), -1 - two(-52)}, -1074, []int{-1, -1, -1}, tiny, 0, -tiny)
	bothIs(t, "rounded once", []float64{11, 13, -11}, -1074, []int{-3, -3, -3}, tiny, 2*tiny, -tiny)
	bothIs(t, "not at all, where the sum is small", []float64{11, 0.1, 1 + two(-52), two(-1022)}, -1076, []int{1076, 1077, 1076, 1076}, 11, 0.2, 1+two(-52), two(-1022))
	bothIs(t, "of subnormal numbers", []float64{tiny, 3 * tiny, 6 * tiny, -tiny}, 1, []int{-2, -2, -3, 0}, 0, 2*tiny, 2*tiny, -2*tiny)
	bothIs(t, "to a normal number", []float64{two(-1021) - tiny, 1 - two(-53)}, -1, []int{0, -1021}, two(-1022), two(-1022))
}

func TestShiftOfNoughtsInfinitiesAndNaNs(t *testing.T) {
	x := []float64{0, nought, inf, -inf, nan}
	far := []int{least, -1 << 30, -5000, -1, 0, 1, 1024, 1 << 30, most}
	for _, k := range far {
		for _, o := range far {
			bothIs(t, "what no power of 2 changes", x, k, slices.Repeat([]int{o}, len(x)), x...)
		}
	}
}

func TestFarExponents(t *testing.T) {
	const far = 1 << 30
	for _, c := range []struct {
		row, col int
		want     float64 // of 1
	}{
		{most, least, 1}, {most, -far, 1}, {most, -far - 1, 1}, {far, least, 1}, {far + 1, -far, 1}, {far + 5, -far - 3, 1}, {far, -far, 1},
		{far + 1, -far + 1, 2}, {most, -far + 5, 32}, {far + 100, 5 - far, 32}, {far, 3 - far, 8}, {far - 1, -far, 0.5}, {far - 1, -far - 1, 0.5}, {far - 2, least, 0.25},
		{least, far - 5, 1.0 / 32}, {1 - far, far, 2}, {1 - far, most, 2}, {-far - 9, far + 7, 1},
		{far, far, inf}, {far, 1, inf}, {most, most, inf}, {most, 1, inf}, {most, -5, inf}, {most, 0, inf}, {1 << 62, 1 << 62, inf}, {most - 1, 2, inf}, {1 << 32, 1 << 31, inf}, {most, 2000 - far, inf},
		{-far, -far, 0}, {-far, -1, 0}, {least, least, 0}, {least, -1, 0}, {least, 5, 0}, {least, 0, 0}, {-1 << 62, -1 << 62, 0}, {least + 1, -2, 0}, {-1 << 32, -1 << 31, 0}, {least, far - 2000, 0},
	} {
		bothIs(t, "far exponents", []float64{1, -1}, c.row, []int{c.col, c.col}, c.want, -c.want)
		bothIs(t, "far exponents, turned about", []float64{1, -1}, c.col, []int{c.row, c.row}, c.want, -c.want)
	}
	for _, x := range []float64{tiny, top} {
		for _, k := range []int{most, far + 1, far, far - 1, 5000} {
			bothIs(t, "of the least and the greatest", []float64{x, x, x, -x, -x}, k, []int{k, 0, -1, 1000, most}, inf, inf, inf, -inf, -inf)
			bothIs(t, "of the least and the greatest, below", []float64{x, x, x, -x, -x}, -k, []int{-k, 0, 1, -1000, least}, 0, 0, 0, nought, nought)
		}
	}
}

func TestShiftIsScale(t *testing.T) {
	n := len(odd())
	for k := -2200; k <= 2200; k += 7 {
		rows, cols, want := []int{k, 3 - k, k / 2}, make([]int, n), make([]float64, 0, 3*n)
		for j := range cols {
			cols[j] = 5*j - 50
		}
		for _, r := range rows {
			for j, x := range odd() {
				want = append(want, num.Scale(x, r+cols[j]))
			}
		}
		shiftIs(t, "all kinds", slices.Repeat(odd(), 3), rows, cols, want...)
	}
}

func TestErrorsOfShift(t *testing.T) {
	for _, m := range wrongMats() {
		was := slices.Clone(m.D)
		for _, rows := range [][]int{nil, {1}, {1, 1}, {1, 1, 1}} {
			for _, cols := range [][]int{nil, {1}, {1, 1}, {1, 1, 1}, {1, 1, 1, 1}, {1, 1, 1, 1, 1}} {
				errorIs(t, "m isn't right, whatever the exponents", ger.Shift(m, rows, cols), api.ErrArg)
			}
		}
		is(t, "one that isn't right", m.D, was)
	}
	for rows := range 4 {
		for cols := range 4 {
			for k := range 6 {
				for o := range 6 {
					m := table(laying{1, 2, 1}, rows, cols, make([]float64, rows*cols)...)
					was, want := slices.Clone(m.D), api.OK
					if k != rows || o != cols {
						want = api.ErrSize
					}
					errorIs(t, "exponents", ger.Shift(m, make([]int, k), make([]int, o)), want)
					is(t, "exponents", m.D, was)
				}
			}
		}
	}
	m := table(laying{inc: 1}, 2, 3, 1, 2, 3, 4, 5, 6)
	was := slices.Clone(m.D)
	for _, k := range [][2][]int{{{1}, {1, 1, 1}}, {{1, 1, 1}, {1, 1, 1}}, {{1, 1}, {1, 1}}, {{1, 1}, {1, 1, 1, 1}}, {{1, 1, 1}, {1, 1}}, {nil, {1, 1, 1}}, {{1, 1}, nil}, {nil, nil}} {
		errorIs(t, "too few or too many", ger.Shift(m, k[0], k[1]), api.ErrSize)
		is(t, "too few or too many", m.D, was)
	}
}

// P8.2: Turn

// densely looks whether m is laid as view's Dense lays so many rows and columns.
func densely(t *testing.T, what string, m api.Mat, rows, cols int) {
	t.Helper()
	if m.Off != 0 || m.Rows != rows || m.Cols != cols || m.Ld != max(1, rows) || len(m.D) != rows*cols {
		t.Errorf("%s: %d numbers, off %d, %d rows, %d columns, ld %d", what, len(m.D), m.Off, m.Rows, m.Cols, m.Ld)
	}
}

// turnIs looks whether l, so many rows, turns about, however the matrix is laid, into new memory.
func turnIs(t *testing.T, what string, rows, cols int, l []float64) {
	t.Helper()
	for _, w := range layings() {
		m := table(w, rows, cols, l...)
		turned, e := ger.Turn(m)
		errorIs(t, what, e, api.OK)
		densely(t, what, turned, cols, rows)
		is(t, what+", columns for rows", turned.D, l) // what goes row by row in m goes column by column
		for k := range turned.D {
			turned.D[k] = 99
		}
		is(t, what+", m", m.D, table(w, rows, cols, l...).D)
		again, _ := ger.Turn(m)
		clear(m.D)
		is(t, what+", again", again.D, l)
	}
}

func TestTurn(t *testing.T) {
	turnIs(t, "two and three", 2, 3, []float64{1, 2, 3, 4, 5, 6})
	turnIs(t, "three and two", 3, 2, []float64{1, 2, 3, 4, 5, 6})
	turnIs(t, "one number", 1, 1, []float64{-0.5})
	turnIs(t, "numbers of all kinds, a row", 1, len(odd()), odd())
	turnIs(t, "numbers of all kinds, a column", len(odd()), 1, odd())
	m, e := ger.Turn(view.Dense(2, 3, 1, 2, 3, 4, 5, 6))
	errorIs(t, "row by row", e, api.OK)
	is(t, "row by row", byRows(m), []float64{1, 4, 2, 5, 3, 6})
	for i := range 3 {
		for j := range 2 {
			if x := view.At(m, i, j); x != float64(1+i+3*j) {
				t.Errorf("row %d, column %d: %v", i, j, x)
			}
		}
	}
	m, e = ger.Turn(view.Part(view.Dense(3, 3, 1, 2, 3, 4, 5, 6, 7, 8, 9), 0, 1, 2, 2))
	errorIs(t, "a part", e, api.OK)
	is(t, "a part", m.D, []float64{2, 3, 5, 6})
	densely(t, "a part", m, 2, 2)
}

func TestTurnOfAllSizes(t *testing.T) {
	for rows := range 9 {
		for cols := range 9 {
			turnIs(t, "many", rows, cols, anyFloats(uint64(rows*9+cols), rows*cols, 100))
		}
	}
	for _, n := range [][2]int{{64, 64}, {64, 1}, {1, 64}, {63, 64}, {64, 0}, {0, 64}} {
		turnIs(t, "as many as may be", n[0], n[1], anyFloats(7, n[0]*n[1], 10))
	}
}

func TestTurnOfNoNumbersAnywhere(t *testing.T) {
	d := vec(1, 2, 3).D
	for _, m := range []api.Mat{{Ld: 1}, {D: d, Off: most, Ld: most}, {D: d, Rows: 5, Ld: 5}, {Off: most, Rows: 5, Ld: most}, {D: d, Cols: 5, Ld: 1}, {Off: most, Cols: 5, Ld: most}} {
		turned, e := ger.Turn(m)
		errorIs(t, "no numbers", e, api.OK)
		densely(t, "no numbers", turned, m.Cols, m.Rows)
	}
}

// nothing looks whether m is the zero matrix.
func nothing(t *testing.T, what string, m api.Mat) {
	t.Helper()
	if len(m.D) != 0 || m.Off != 0 || m.Rows != 0 || m.Cols != 0 || m.Ld != 0 {
		t.Errorf("%s: %v", what, m)
	}
}

func TestErrorsOfTurn(t *testing.T) {
	fails := func(what string, m api.Mat, want api.Errno) {
		t.Helper()
		was := slices.Clone(m.D)
		turned, e := ger.Turn(m)
		errorIs(t, what, e, want)
		nothing(t, what, turned)
		is(t, what, m.D, was)
	}
	for _, m := range wrongMats() {
		fails("m isn't right", m, api.ErrArg)
	}
	fails("m isn't right and has too many rows", api.Mat{Rows: 65, Cols: 1, Ld: 64}, api.ErrArg)
	fails("m isn't right and has too many columns", api.Mat{Rows: 1, Cols: 65, Ld: 1}, api.ErrArg)
	for _, n := range [][2]int{{65, 1}, {1, 65}, {65, 65}, {65, 64}, {64, 65}, {65, 0}, {0, 65}, {70, 2}} {
		fails("too many", table(laying{1, 2, 3}, n[0], n[1]), api.ErrSize)
	}
	fails("rows without number", api.Mat{Rows: most, Ld: most}, api.ErrSize)
	fails("columns without number", api.Mat{Cols: most, Ld: 1}, api.ErrSize)
}

// P8.2: Eye

func TestEye(t *testing.T) {
	is(t, "none", ger.Eye(0).D, nil)
	is(t, "one", ger.Eye(1).D, []float64{1})
	is(t, "two", ger.Eye(2).D, []float64{1, 0, 0, 1})
	is(t, "three", ger.Eye(3).D, []float64{1, 0, 0, 0, 1, 0, 0, 0, 1})
	for n := range 65 {
		m := ger.Eye(n)
		densely(t, "of that size", m, n, n)
		want := make([]float64, n*n)
		for k := range n {
			want[k*n+k] = 1
		}
		is(t, "of that size", m.D, want)
		for k := range m.D {
			m.D[k] = 99
		}
		is(t, "in new memory", ger.Eye(n).D, want)
	}
	for _, n := range []int{65, 66, 1 << 31, 1 << 32, 1 << 62, most, -1, -64, least} {
		nothing(t, "no size", ger.Eye(n))
	}
}

// P1

func edges() []int { return []int{least, -1, 0, 1, 2, 3, 4, 1 << 31, 1 << 62, most - 1, most} }

func TestEveryCallEnds(t *testing.T) {
	for _, l := range [][]float64{nil, {1, 2, 3, 4}} {
		for _, off := range edges() {
			for _, n := range edges() {
				for _, inc := range edges() {
					anyVector(t, api.Vec{D: slices.Clone(l), Off: off, N: n, Inc: inc})
					for _, ld := range edges() {
						anyMatrix(t, api.Mat{D: slices.Clone(l), Off: off, Rows: n, Cols: inc, Ld: ld})
					}
				}
			}
		}
	}
}

// expected is what a call that needs 2 and 2 numbers answers.
func expected(right bool, rows, cols int) api.Errno {
	switch {
	case !right:
		return api.ErrArg
	case rows != 2 || cols != 2:
		return api.ErrSize
	}
	return api.OK
}

// anyVector looks whether Ger tells of v whether it is right.
func anyVector(t *testing.T, v api.Vec) {
	t.Helper()
	want := expected(view.Right(v), v.N, 2)
	errorIs(t, "x", ger.Ger(1, v, vec(1, 2), view.Dense(2, 2)), want)
	errorIs(t, "y", ger.Ger(1, vec(1, 2), v, view.Dense(2, 2)), want)
	errorIs(t, "x and y", ger.Ger(1, v, v, view.Dense(2, 2)), want)
}

// anyMatrix looks whether each call tells of m whether it is right.
func anyMatrix(t *testing.T, m api.Mat) {
	t.Helper()
	want := expected(view.Good(m), m.Rows, m.Cols)
	errorIs(t, "Ger", ger.Ger(1, vec(1, 2), vec(3, 4), m), want)
	errorIs(t, "Shift", ger.Shift(m, []int{1, 2}, []int{most, least}), want)
	_, e := ger.Turn(m)
	switch {
	case !view.Good(m):
		want = api.ErrArg
	case m.Rows > 64 || m.Cols > 64:
		want = api.ErrSize
	default:
		want = api.OK
	}
	errorIs(t, "Turn", e, want)
}
