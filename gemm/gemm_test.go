package gemm_test

import (
	"math"
	"math/big"
	"slices"
	"testing"

	"straightedge/api"
	"straightedge/gemm"
	"straightedge/num"
	"straightedge/view"
)

const (
	most  = math.MaxInt
	least = math.MinInt
	top   = math.MaxFloat64
	tiny  = math.SmallestNonzeroFloat64
	guard = -77.5 // what stands between the numbers, beside them and behind the list
)

var (
	inf    = math.Inf(1)
	nan    = math.NaN()
	nought = math.Copysign(0, -1)
)

// two is 2^k.
func two(k int) float64 { return math.Ldexp(1, k) }

// odd are numbers of all kinds.
func odd() []float64 {
	return []float64{
		0, nought, tiny, -3 * tiny, two(-1022), -two(-600), 0.1, -0.5, 1, -1, 1 + two(-52), 1 + two(-30), -1 - two(-29),
		3, -7, 1e16, two(600), -two(970), top, -top, inf, -inf, nan,
	}
}

// laying is a way to lay a matrix' numbers in a list: with an Ld that is more by that than it must be.
type laying struct{ off, more, after int }

func layings() []laying {
	return []laying{{0, 0, 0}, {3, 0, 2}, {0, 1, 0}, {1, 2, 4}}
}

// laid is a matrix of the numbers l, row by row, with guards everywhere else, and behind the list's length.
func laid(w laying, rows, cols int, l ...float64) api.Mat {
	ld, n := max(1, rows)+w.more, 0
	if rows > 0 && cols > 0 {
		n = (cols-1)*ld + rows
	}
	d := slices.Repeat([]float64{guard}, w.off+n+w.after+5)
	m := api.Mat{D: d[:len(d)-5], Off: w.off, Rows: rows, Cols: cols, Ld: ld}
	for k, x := range l {
		m.D[w.off+k/cols+k%cols*ld] = x
	}
	return m
}

// mat is a matrix of the numbers l, row by row, and no more.
func mat(rows, cols int, l ...float64) api.Mat { return laid(laying{}, rows, cols, l...) }

// is looks whether d is want to the last bit, and its memory behind its length as it was.
func is(t *testing.T, what string, d, want []float64) {
	t.Helper()
	if !slices.EqualFunc(d, want, num.Same) {
		t.Errorf("%s: %v, not %v", what, d, want)
	}
	for _, x := range d[len(d):cap(d)] {
		if x != guard {
			t.Errorf("%s: written behind the list: %v", what, x)
		}
	}
}

func errorIs(t *testing.T, what string, got, want api.Errno) {
	t.Helper()
	if got != want {
		t.Errorf("%s: error %d, not %d", what, int(got), int(want))
	}
}

// wrong are matrices that aren't right, each by a thing of its own.
func wrong() []api.Mat {
	d := mat(1, 6, 1, 2, 3, 4, 5, 6).D
	return []api.Mat{
		{},
		{D: d},
		{D: d, Rows: 2, Cols: 2},
		{D: d, Rows: 2, Cols: 2, Ld: 1},
		{D: d, Rows: 2, Cols: 2, Ld: -2},
		{D: d, Rows: -1, Cols: 2, Ld: 2},
		{D: d, Rows: 2, Cols: -1, Ld: 2},
		{D: d, Off: -1, Rows: 2, Cols: 2, Ld: 2},
		{D: d, Off: 3, Rows: 2, Cols: 2, Ld: 2},
		{D: d, Rows: 2, Cols: 2, Ld: 5},
		{D: mat(1, 3, 1, 2, 3).D, Rows: 2, Cols: 2, Ld: 2},
		{D: d, Rows: 2, Cols: 4, Ld: 2},
		{D: d, Rows: 2, Cols: 5, Ld: 1 << 62},
		{D: d, Rows: most, Cols: most, Ld: most, Off: most},
		{D: d, Rows: least, Cols: least, Ld: least, Off: least},
		{D: d, Ld: 0, Rows: 0, Cols: 2},
		{Rows: 1, Cols: 1, Ld: 1},
		{Rows: 2, Cols: 2, Ld: 2},
	}
}

// anyFloats are n floats that look like chance and are the same each time: their Exps are about from -wide to wide.
func anyFloats(seed uint64, n, wide int) []float64 {
	l := make([]float64, n)
	for i := range l {
		seed = seed*6364136223846793005 + 1442695040888963407
		x := float64(int64(seed)) / (1 << 63)
		seed = seed*6364136223846793005 + 1442695040888963407
		l[i] = math.Ldexp(x, int(seed>>33)%(2*wide+1)-wide)
	}
	return l
}

// exactly is x, with room for all digits of a sum and a product of floats.
func exactly(x float64) *big.Float { return new(big.Float).SetPrec(5000).SetFloat64(x) }

// times and plus are what IEEE 754 makes of two numbers: exactly, then rounded once. Infinities and NaNs are left to the machine.
func times(x, y float64) float64 {
	if !num.Finite(x, y) {
		return x * y
	}
	p, _ := new(big.Float).SetPrec(5000).Mul(exactly(x), exactly(y)).Float64()
	return p
}

func plus(x, y float64) float64 {
	if x == 0 && y == 0 || !num.Finite(x, y) {
		return x + y // noughts by their signs, of which the exact sum knows another rule
	}
	s, _ := new(big.Float).SetPrec(5000).Add(exactly(x), exactly(y)).Float64()
	return s
}

// byRows are the numbers of m, row by row.
func byRows(m api.Mat) []float64 {
	l := make([]float64, 0, m.Rows*m.Cols)
	for i := range m.Rows {
		for j := range m.Cols {
			l = append(l, m.D[m.Off+i+j*m.Ld])
		}
	}
	return l
}

// problem is what a product is of: x of so many rows, y of so many columns, and what is summed over; row by row.
type problem struct {
	a               float64
	rows, sum, cols int
	x, y            []float64
	b               float64
	z               []float64
}

// want is what the document's words make of p's z.
func (p problem) want() []float64 {
	l := make([]float64, len(p.z))
	for at := range l {
		if p.b != 0 {
			l[at] = times(p.b, p.z[at])
		}
		for k := range p.sum {
			l[at] = plus(l[at], times(times(p.a, p.y[k*p.cols+at%p.cols]), p.x[at/p.cols*p.sum+k]))
		}
	}
	return l
}

// comesTo looks whether z comes to want, however x, y and z are laid, and nothing else changes.
func comesTo(t *testing.T, what string, p problem, want ...float64) {
	t.Helper()
	for _, wx := range layings() {
		for _, wy := range layings() {
			for _, wz := range layings() {
				x, y, z := laid(wx, p.rows, p.sum, p.x...), laid(wy, p.sum, p.cols, p.y...), laid(wz, p.rows, p.cols, p.z...)
				errorIs(t, what, gemm.Mul(p.a, x, y, p.b, z), api.OK)
				is(t, what, z.D, laid(wz, p.rows, p.cols, want...).D)
				is(t, what+", x", x.D, laid(wx, p.rows, p.sum, p.x...).D)
				is(t, what+", y", y.D, laid(wy, p.sum, p.cols, p.y...).D)
			}
		}
	}
}

// oneIs looks at a product of one number each.
func oneIs(t *testing.T, what string, a, x, y, b, z, want float64) {
	t.Helper()
	comesTo(t, what, problem{a, 1, 1, 1, []float64{x}, []float64{y}, b, []float64{z}}, want)
}

// dotIs looks at a row times a column, begun with 0.
func dotIs(t *testing.T, what string, x, y []float64, want float64) {
	t.Helper()
	comesTo(t, what, problem{1, 1, len(x), 1, x, y, 0, []float64{9}}, want)
}

// P11.1: ordinary products

func TestMul(t *testing.T) {
	six := []float64{1, 2, 3, 4, 5, 6}
	comesTo(t, "the document's", problem{1, 2, 2, 1, []float64{1, 2, 3, 4}, []float64{5, 6}, 0, []float64{8, 9}}, 17, 39)
	comesTo(t, "two, three, two", problem{2, 2, 3, 2, six, []float64{1, 0, 0, 1, 1, 1}, -1, []float64{1, 1, 1, 1}}, 7, 9, 19, 21)
	comesTo(t, "three, two, three", problem{1, 3, 2, 3, six, []float64{1, 0, -1, 2, 1, 0}, 1, []float64{10, 20, 30, 40, 50, 60, 70, 80, 90}}, 15, 22, 29, 51, 54, 57, 87, 86, 85)
	comesTo(t, "x and y aren't taken for one another", problem{1, 2, 2, 2, []float64{1, 1, 0, 1}, []float64{1, 0, 1, 1}, 0, make([]float64, 4)}, 2, 1, 1, 1)
	comesTo(t, "turned about", problem{1, 2, 2, 2, []float64{1, 0, 1, 1}, []float64{1, 1, 0, 1}, 0, make([]float64, 4)}, 1, 1, 1, 2)
	comesTo(t, "a row and a matrix", problem{-1, 1, 2, 3, []float64{1, -2}, six, 3, []float64{1, 2, 3}}, 10, 14, 18)
	comesTo(t, "a matrix and a column", problem{1, 3, 2, 1, six, []float64{1, -1}, 1, []float64{5, 5, 5}}, 4, 4, 4)
	comesTo(t, "a column and a row", problem{0.5, 2, 1, 3, []float64{2, -4}, []float64{1, 2, 3}, 1, six}, 2, 4, 6, 2, 1, 0)
	comesTo(t, "a row and a column", problem{2, 1, 3, 1, []float64{1, -2, 4}, []float64{3, 5, 0.25}, 1, []float64{100}}, 88)
	oneIs(t, "one number", 0.5, 3, -4, 10, 2, 14)
}

func TestMulByOneOnTheDiagonal(t *testing.T) {
	for n := 1; n <= 5; n++ {
		l, eye := anyFloats(uint64(n), n*n, 300), make([]float64, n*n)
		for i := range n {
			eye[i*n+i] = 1
		}
		comesTo(t, "at the right", problem{1, n, n, n, l, eye, 0, slices.Repeat([]float64{nan}, n*n)}, l...)
		comesTo(t, "at the left", problem{1, n, n, n, eye, l, 0, slices.Repeat([]float64{inf}, n*n)}, l...)
	}
}

func TestMulOfNoNumbers(t *testing.T) {
	was := []float64{5, -1, nought, inf}
	comesTo(t, "nothing summed over", problem{2, 2, 0, 2, nil, nil, 3, was}, 15, -3, nought, inf)
	comesTo(t, "nothing summed over, b 1", problem{nan, 2, 0, 2, nil, nil, 1, was}, was...)
	comesTo(t, "nothing summed over, b 0", problem{inf, 2, 0, 2, nil, nil, 0, []float64{nan, -1, nought, inf}}, 0, 0, 0, 0)
	comesTo(t, "nothing summed over, b -1", problem{0, 4, 0, 1, nil, nil, -1, was}, -5, 1, 0, -inf)
	comesTo(t, "no rows", problem{2, 0, 2, 3, nil, []float64{1, nan, 3, 4, 5, 6}, 3, nil})
	comesTo(t, "no columns", problem{2, 3, 2, 0, []float64{1, nan, 3, 4, 5, 6}, nil, 3, nil})
	comesTo(t, "no rows or columns", problem{2, 0, 2, 0, nil, nil, 3, nil})
	comesTo(t, "nothing", problem{2, 0, 0, 0, nil, nil, 3, nil})
}

func TestMulOfNoNumbersAnywhere(t *testing.T) {
	d := mat(1, 4, 1, 2, 3, 4).D
	sizes := []int{0, 1, 2, 1 << 31, most - 1, most}
	for _, l := range [][]float64{nil, d} {
		for _, n := range sizes {
			for _, off := range sizes {
				none := func(rows, cols int) api.Mat {
					return api.Mat{D: l, Off: off, Rows: rows, Cols: cols, Ld: max(1, rows)}
				}
				for _, k := range sizes {
					errorIs(t, "no rows, no sum", gemm.Mul(2, none(0, 0), none(0, n), 2, none(0, n)), api.OK)
					errorIs(t, "no columns, no sum", gemm.Mul(2, none(n, 0), none(0, 0), 2, none(n, 0)), api.OK)
					errorIs(t, "no rows or columns", gemm.Mul(2, none(0, k), none(k, 0), 2, none(0, 0)), api.OK)
				}
				errorIs(t, "no rows", gemm.Mul(2, none(0, 2), mat(2, 2, 1, 2, 3, 4), 2, none(0, 2)), api.OK)
				errorIs(t, "no columns", gemm.Mul(2, mat(2, 2, 1, 2, 3, 4), none(2, 0), 2, none(2, 0)), api.OK)
				z := laid(laying{off: 1}, 2, 2, 1, 2, 3, 4)
				errorIs(t, "no sum", gemm.Mul(2, none(2, 0), none(0, 2), -1, z), api.OK)
				is(t, "no sum", z.D, laid(laying{off: 1}, 2, 2, -1, -2, -3, -4).D)
			}
		}
	}
	is(t, "as it was", d, []float64{1, 2, 3, 4})
}

func TestMulOfOneNumberFarApart(t *testing.T) {
	x := api.Mat{D: mat(1, 3, 9, 9, 5).D, Off: 2, Rows: 1, Cols: 1, Ld: most}
	y := api.Mat{D: mat(1, 3, 9, 7, 9).D, Off: 1, Rows: 1, Cols: 1, Ld: 1 << 62}
	z := api.Mat{D: mat(1, 3, 3, 8, 8).D, Rows: 1, Cols: 1, Ld: most - 1}
	errorIs(t, "far apart", gemm.Mul(2, x, y, -1, z), api.OK)
	is(t, "far apart", z.D, []float64{67, 8, 8})
}

// P11.1: what z is begun with

func TestBegun(t *testing.T) {
	was := []float64{5, -1, 0, nought, nan, inf, -inf, top}
	n := len(was)
	begun := func(what string, a, b float64, want ...float64) {
		t.Helper()
		comesTo(t, what+", one column", problem{a, n, 1, 1, slices.Repeat([]float64{3}, n), []float64{2}, b, was}, want...)
		comesTo(t, what+", two columns", problem{a, n / 2, 1, 2, slices.Repeat([]float64{3}, n/2), []float64{2, 2}, b, was}, want...)
		comesTo(t, what+", one row", problem{a, 1, 1, n, []float64{3}, slices.Repeat([]float64{2}, n), b, was}, want...)
	}
	for _, b := range []float64{0, nought} {
		begun("with 0", 1, b, 6, 6, 6, 6, 6, 6, 6, 6)
		begun("with 0, and 0 added", 0, b, 0, 0, 0, 0, 0, 0, 0, 0)
		begun("with 0, and -0 added", nought, b, 0, 0, 0, 0, 0, 0, 0, 0)
	}
	begun("with 1", 1, 1, 11, 5, 6, 6, nan, inf, -inf, top)
	begun("with -1", 1, -1, 1, 7, 6, 6, nan, -inf, inf, -top)
	begun("with 2", 1, 2, 16, 4, 6, 6, nan, inf, -inf, inf)
	begun("with NaN", 1, nan, nan, nan, nan, nan, nan, nan, nan, nan)
	begun("with infinity", 1, inf, inf, -inf, nan, nan, nan, inf, -inf, inf)
	begun("with the least number", 0, tiny, 5*tiny, -tiny, 0, 0, nan, inf, -inf, times(tiny, top))
	comesTo(t, "with 1/2 and nothing else", problem{1, n, 0, 1, nil, nil, 0.5, was}, 2.5, -0.5, 0, nought, nan, inf, -inf, two(1023)-two(970))
	oneIs(t, "once, and rounded ahead of what is added", 1, 1, -1-two(-29), 1+two(-30), 1+two(-30), 0)
	comesTo(t, "once, not with each product", problem{1, 1, 3, 1, []float64{1, 1, 1}, []float64{1, 1, 1}, 2, []float64{10}}, 23)
}

func TestATimesNought(t *testing.T) {
	for _, a := range []float64{0, nought} {
		for _, far := range []float64{inf, -inf, nan} {
			comesTo(t, "a 0, x not finite", problem{a, 2, 2, 2, []float64{1, far, 3, 4}, []float64{1, 2, 3, 4}, 1, []float64{5, 6, 7, 8}}, nan, nan, 7, 8)
			comesTo(t, "a 0, y not finite", problem{a, 2, 2, 2, []float64{1, 2, 3, 4}, []float64{1, far, 3, 4}, 1, []float64{5, 6, 7, 8}}, 5, nan, 7, nan)
			comesTo(t, "y 0, x not finite", problem{1, 1, 2, 1, []float64{1, far}, []float64{2, a}, 1, []float64{5}}, nan)
			comesTo(t, "x 0, y not finite", problem{1, 1, 2, 1, []float64{1, a}, []float64{2, far}, 1, []float64{5}}, nan)
			oneIs(t, "a 0, z not finite, begun with 0", a, 1, 1, 0, far, 0)
			oneIs(t, "a 0, z not finite", a, 1, 1, 1, far, far)
		}
	}
}

// P11.1: order and rounding

func TestWhatComesFirst(t *testing.T) {
	oneIs(t, "a times y, beyond the greatest", two(600), two(-600), two(600), 0, 0, inf)
	oneIs(t, "a times y, below the least", two(-600), two(600), two(-600), 0, 0, 0)
	oneIs(t, "not x times y", two(-600), two(600), two(600), 0, 0, two(600))
	oneIs(t, "nor x times a", two(600), two(600), two(-600), 0, 0, two(600))
	oneIs(t, "nor x times a, below the least", two(-600), two(-600), two(600), 0, 0, two(-600))
	dotIs(t, "from the left", []float64{1e16, 1, -1e16}, []float64{1, 1, 1}, 0)
	dotIs(t, "turned about", []float64{1e16, -1e16, 1}, []float64{1, 1, 1}, 1)
	dotIs(t, "with 1 ahead", []float64{1, 1, 1e16, -1e16}, []float64{1, 1, 1, 1}, 2)
	dotIs(t, "y from above", []float64{1, 1, 1}, []float64{1e16, 1, -1e16}, 0)
	dotIs(t, "upwards", []float64{two(-53), two(-53), 1}, []float64{1, 1, 1}, 1+two(-52))
	dotIs(t, "downwards", []float64{1, two(-53), two(-53)}, []float64{1, 1, 1}, 1)
	comesTo(t, "each is added to what is there", problem{1, 1, 2, 1, []float64{two(-53), two(-53)}, []float64{1, 1}, 1, []float64{1}}, 1)
	comesTo(t, "from what is there on", problem{1, 1, 2, 1, []float64{top, top}, []float64{1, 1}, 1, []float64{-top}}, top)
	comesTo(t, "a with each product", problem{0.1, 1, 3, 1, []float64{1, 1, 1}, []float64{1, 1, 1}, 0, []float64{0}}, plus(plus(0.1, 0.1), 0.1))
	comesTo(t, "at each place of its own", problem{1, 2, 3, 2, []float64{1e16, 1, -1e16, 1, 1e16, -1e16}, []float64{1, -1, 1, 1, 1, 1}, 0, make([]float64, 4)}, 0, -2e16, 0, 0)
}

func TestMulIsNotFused(t *testing.T) {
	x := 1 + two(-30) // its square is 1 + 2^-29 + 2^-60, rounded without the last
	rest := -1 - two(-29)
	dotIs(t, "a product, then the sum", []float64{-rest, x}, []float64{-1, x}, 0)
	oneIs(t, "a product, then z", 1, x, x, 1, rest, 0)
	oneIs(t, "a times y, then x", x, 1, x, 1, rest, 0)
	oneIs(t, "b times z, then the sum", 1, rest, 1, x, x, 0)
	oneIs(t, "a product too great", 1, two(1000), two(24), 1, -top, inf)
	oneIs(t, "a product too small", 1, two(-600), two(-475), 1, tiny, tiny)
}

// P11.1: noughts, overflow, underflow, infinities, NaNs

func TestMulOfNoughts(t *testing.T) {
	oneIs(t, "cancels from above", 1, -1, 1, 1, 1, 0)
	oneIs(t, "cancels from below", 1, 1, 1, 1, -1, 0)
	oneIs(t, "cancels at the least number", 1, -tiny, 1, 1, tiny, 0)
	dotIs(t, "cancels within", []float64{1, -1}, []float64{3, 3}, 0)
	oneIs(t, "-0 and -0", 1, nought, 1, 1, nought, nought)
	oneIs(t, "-0 and -0 of y", 1, 1, nought, 1, nought, nought)
	oneIs(t, "-0 and -0 of a", nought, 1, 1, 1, nought, nought)
	oneIs(t, "-0 times -0, and -0", 1, nought, nought, 1, nought, 0)
	oneIs(t, "a below 0, and -0", -1, 0, 1, 1, nought, nought)
	oneIs(t, "-1 times 0, and -0", 1, nought, 1, -1, 0, nought)
	oneIs(t, "begun with 0, -0 is added", 1, nought, 1, 0, nought, 0)
	oneIs(t, "begun with -0, -0 is added", 1, nought, 1, nought, nought, 0)
	oneIs(t, "of what is too small, below 0", 1, -two(-600), two(-600), 1, nought, nought)
	oneIs(t, "of what is too small, above 0", 1, two(-600), two(-600), 1, nought, 0)
	comesTo(t, "of both signs", problem{1, 1, 2, 1, []float64{nought, 0}, []float64{1, 1}, 1, []float64{nought}}, 0)
	comesTo(t, "of one sign", problem{1, 1, 2, 1, []float64{nought, 0}, []float64{1, -1}, 1, []float64{nought}}, nought)
}

func TestMulThatOverflowsAndUnderflows(t *testing.T) {
	dotIs(t, "a product", []float64{two(600), 1}, []float64{two(600), -1}, inf)
	dotIs(t, "a sum", []float64{top, two(970)}, []float64{1, 1}, inf)
	dotIs(t, "just not", []float64{top, two(969)}, []float64{1, 1}, top)
	dotIs(t, "both signs", []float64{two(600), -two(600)}, []float64{two(600), two(600)}, nan)
	dotIs(t, "doesn't come back", []float64{top, top, -top}, []float64{1, 1, 1}, inf)
	dotIs(t, "subnormal products", []float64{two(-600), -two(-500)}, []float64{3 * two(-474), 5 * two(-574)}, -2*tiny)
	dotIs(t, "halves of the least number", []float64{two(-600), two(-600)}, []float64{two(-475), 3 * two(-475)}, 2*tiny)
	oneIs(t, "b times z", 1, 1, 1, 2, -top, -inf)
	oneIs(t, "b times z is subnormal", 1, 1, tiny, 0.5, 3*tiny, 3*tiny)
}

func TestMulOfInfinities(t *testing.T) {
	ones := []float64{1, 1, 1, 1}
	comesTo(t, "in x", problem{1, 2, 2, 2, []float64{1, inf, -inf, 1}, ones, 1, []float64{5, 6, 7, 8}}, inf, inf, -inf, -inf)
	comesTo(t, "in y", problem{-1, 2, 2, 2, ones, []float64{1, inf, 1, 2}, 1, []float64{5, 6, 7, 8}}, 3, -inf, 5, -inf)
	comesTo(t, "in z", problem{1, 2, 1, 2, []float64{1, 2}, []float64{1, 2}, -1, []float64{inf, -inf, 1, 2}}, -inf, inf, 1, 2)
	comesTo(t, "as a", problem{inf, 2, 1, 1, []float64{1, -2}, []float64{1}, 1, []float64{5, 6}}, inf, -inf)
	comesTo(t, "as a, times 0", problem{inf, 2, 2, 1, []float64{1, 1, 2, 2}, []float64{1, 0}, 1, []float64{5, 6}}, nan, nan)
	dotIs(t, "of both signs", []float64{inf, -inf}, []float64{1, 1}, nan)
	oneIs(t, "of both signs by z", 1, inf, 1, 1, -inf, nan)
	dotIs(t, "times 0", []float64{1, inf}, []float64{1, 0}, nan)
}

func TestMulWithANaNAtEachPlace(t *testing.T) {
	base := func() problem {
		return problem{2, 3, 2, 3, []float64{1, 2, 3, 4, 5, 6}, []float64{0, 1, -1, 1, 0, -1}, 1, []float64{10, 20, 30, 40, 50, 60, 70, 80, 90}}
	}
	comes := []float64{14, 22, 24, 48, 56, 46, 82, 90, 68}
	comesTo(t, "without", base(), comes...)
	for k := range 6 {
		p, want := base(), slices.Clone(comes)
		p.x[k] = nan
		for j := range 3 {
			want[k/2*3+j] = nan
		}
		comesTo(t, "in x", p, want...)
		p, want = base(), slices.Clone(comes)
		p.y[k] = nan
		for i := range 3 {
			want[i*3+k%3] = nan
		}
		comesTo(t, "in y", p, want...)
	}
	for k := range 9 {
		p, want := base(), slices.Clone(comes)
		p.z[k], want[k] = nan, nan
		comesTo(t, "in z", p, want...)
		p.b, want = 0, slices.Clone(comes)
		for i := range want {
			want[i] -= base().z[i]
		}
		comesTo(t, "in z, begun with 0", p, want...)
	}
	p := base()
	p.a = nan
	comesTo(t, "as a", p, slices.Repeat([]float64{nan}, 9)...)
}

func TestMulOfAllKinds(t *testing.T) {
	few := []float64{0, nought, tiny, -0.1, 1, -1, 1 + two(-30), two(600), -top, inf, nan}
	n := len(odd())
	for _, a := range few {
		for _, b := range few {
			for _, was := range few {
				p := problem{a, n, 1, n, odd(), odd(), b, slices.Repeat([]float64{was}, n*n)}
				x, y, z := mat(n, 1, p.x...), mat(1, n, p.y...), mat(n, n, p.z...)
				errorIs(t, "all kinds", gemm.Mul(a, x, y, b, z), api.OK)
				is(t, "all kinds", byRows(z), p.want())
			}
		}
	}
}

func TestMulOfManyNumbers(t *testing.T) {
	for rows := range 5 {
		for sum := range 6 {
			for cols := range 5 {
				for _, wide := range []int{1, 30, 400} {
					seed := uint64(rows*1000 + sum*100 + cols*10 + wide)
					p := problem{rows: rows, sum: sum, cols: cols, x: anyFloats(seed, rows*sum, wide), y: anyFloats(seed+1, sum*cols, wide), z: anyFloats(seed+2, rows*cols, wide)}
					p.a, p.b = anyFloats(seed+3, 1, wide)[0], anyFloats(seed+4, 1, wide)[0]
					comesTo(t, "many", p, p.want()...)
				}
			}
		}
	}
}

func TestMulOfGreatMatrices(t *testing.T) {
	for _, n := range [][3]int{{64, 64, 64}, {65, 3, 65}, {3, 100, 2}, {1, 1000, 1}, {200, 1, 70}} {
		seed := uint64(n[0])
		p := problem{1.5, n[0], n[1], n[2], anyFloats(seed, n[0]*n[1], 4), anyFloats(seed+1, n[1]*n[2], 4), -0.5, anyFloats(seed+2, n[0]*n[2], 4)}
		x, y, z := mat(n[0], n[1], p.x...), mat(n[1], n[2], p.y...), laid(laying{2, 1, 3}, n[0], n[2], p.z...)
		errorIs(t, "great", gemm.Mul(p.a, x, y, p.b, z), api.OK)
		is(t, "great", z.D, laid(laying{2, 1, 3}, n[0], n[2], p.want()...).D)
	}
}

// P11.1: x, y and z in one list

// lastOf answers the last place of m's span; -1, if it has none.
func lastOf(m api.Mat) int {
	if m.Rows == 0 || m.Cols == 0 {
		return -1
	}
	return m.Off + (m.Cols-1)*m.Ld + m.Rows - 1
}

// crosses tells whether the spans of a and b have a place in common.
func crosses(a, b api.Mat) bool {
	for p := a.Off; p <= lastOf(a); p++ {
		if b.Off <= p && p <= lastOf(b) {
			return true
		}
	}
	return false
}

// matrices are all matrices of up to 2 rows and columns within d, of three Ld.
func matrices(d []float64) []api.Mat {
	var all []api.Mat
	for off := range len(d) {
		for rows := range 3 {
			for cols := range 3 {
				for ld := 1; ld <= 3; ld++ {
					if m := (api.Mat{D: d, Off: off, Rows: rows, Cols: cols, Ld: ld}); view.Good(m) {
						all = append(all, m)
					}
				}
			}
		}
	}
	return all
}

func TestMulWithinOneList(t *testing.T) {
	was := []float64{2, -3, 5, 7, -11, 13, 17}
	d := mat(1, 7, was...).D
	for _, x := range matrices(d) {
		for _, y := range matrices(d) {
			if x.Cols != y.Rows {
				continue
			}
			for _, z := range matrices(d) {
				if z.Rows == x.Rows && z.Cols == y.Cols {
					within(t, x, y, z)
					copy(d, was)
				}
			}
		}
	}
}

// within looks whether z, in one list with x and y, comes to what it must, or meets them and nothing changes.
func within(t *testing.T, x, y, z api.Mat) {
	t.Helper()
	was := slices.Clone(z.D)
	p := problem{3, x.Rows, x.Cols, y.Cols, byRows(x), byRows(y), -2, byRows(z)}
	e := gemm.Mul(p.a, x, y, p.b, z)
	if crosses(z, x) || crosses(z, y) {
		errorIs(t, "z meets", e, api.ErrApart)
		is(t, "z meets", z.D, was)
		return
	}
	errorIs(t, "in one list", e, api.OK)
	for k, w := range p.want() {
		was[z.Off+k/z.Cols+k%z.Cols*z.Ld] = w
	}
	is(t, "in one list", z.D, was)
}

func TestXAndYThatMeet(t *testing.T) {
	x, z := mat(2, 2, 1, 2, 3, 4), mat(2, 2)
	errorIs(t, "x is y", gemm.Mul(1, x, x, 0, z), api.OK)
	is(t, "x is y", byRows(z), []float64{7, 10, 15, 22})
	y := api.Mat{D: x.D, Off: 1, Rows: 2, Cols: 1, Ld: 2}
	errorIs(t, "y within x", gemm.Mul(1, x, y, -1, view.Part(z, 0, 1, 2, 1)), api.OK)
	is(t, "y within x", byRows(z), []float64{7, -3, 15, -5})
	is(t, "x", x.D, []float64{1, 3, 2, 4})
}

func TestListsOfTwoLengthsAreOne(t *testing.T) {
	was := []float64{1, 2, 3, 4, 5, 6}
	d := mat(1, 6, was...).D
	one := view.Dense(2, 2, 1, 0, 0, 1)
	x, z := api.Mat{D: d[:4], Rows: 2, Cols: 2, Ld: 2}, api.Mat{D: d, Off: 2, Rows: 2, Cols: 2, Ld: 2}
	errorIs(t, "z meets x", gemm.Mul(1, x, one, 0, z), api.ErrApart)
	errorIs(t, "z meets y", gemm.Mul(1, one, x, 0, z), api.ErrApart)
	errorIs(t, "z in the shorter one meets x", gemm.Mul(1, z, one, 0, x), api.ErrApart)
	is(t, "z meets", d, was)
	x = api.Mat{D: d[:2], Rows: 2, Cols: 1, Ld: 2}
	errorIs(t, "z behind x", gemm.Mul(1, x, view.Dense(1, 2, 1, -1), 0, z), api.OK)
	is(t, "z behind x", d, []float64{1, 2, 1, 2, -1, -2})
}

func TestPartsOfOneMatrix(t *testing.T) {
	m := view.Dense(2, 4, 1, 2, 9, 9, 3, 4, 9, 9)
	errorIs(t, "columns of it", gemm.Mul(1, view.Part(m, 0, 0, 2, 2), view.Part(m, 0, 0, 2, 2), 0, view.Part(m, 0, 2, 2, 2)), api.OK)
	is(t, "columns of it", byRows(m), []float64{1, 2, 7, 10, 3, 4, 15, 22})
	errorIs(t, "rows of it cross", gemm.Mul(1, view.Part(m, 0, 0, 1, 1), view.Part(m, 0, 0, 1, 4), 0, view.Part(m, 1, 0, 1, 4)), api.ErrApart)
	is(t, "rows of it cross", byRows(m), []float64{1, 2, 7, 10, 3, 4, 15, 22})
}

// P11.1: errors

func TestErrorsOfMul(t *testing.T) {
	right := []api.Mat{mat(2, 2, 1, 2, 3, 4), mat(2, 3, 1, 2, 3, 4, 5, 6), mat(0, 0), mat(0, 2), mat(1, 1, 5)}
	all := func(what string, x, y, z api.Mat) {
		t.Helper()
		dx, dy, dz := slices.Clone(x.D), slices.Clone(y.D), slices.Clone(z.D)
		for _, b := range []float64{0, 1, 2, nan} {
			errorIs(t, what, gemm.Mul(b, x, y, b, z), api.ErrArg)
		}
		is(t, what+", x", x.D, dx)
		is(t, what+", y", y.D, dy)
		is(t, what+", z", z.D, dz)
	}
	for _, w := range wrong() {
		for _, a := range right {
			for _, b := range append(right, w) {
				all("x isn't right", w, a, b)
				all("y isn't right", a, w, b)
				all("z isn't right", a, b, w)
			}
		}
		all("none is right", w, w, w)
	}
}

func TestErrorsOfSizes(t *testing.T) {
	l := []float64{1, 2, 3, 4, 5, 6, 7, 8, 9}
	m := func(rows, cols int) api.Mat { return laid(laying{1, 1, 2}, rows, cols, l[:rows*cols]...) }
	for k := range 4 * 4 * 4 * 4 * 4 * 4 {
		x, y, z := m(k%4, k/4%4), m(k/16%4, k/64%4), m(k/256%4, k/1024)
		was, want := slices.Clone(z.D), api.OK
		if x.Cols != y.Rows || x.Rows != z.Rows || y.Cols != z.Cols {
			want = api.ErrSize
		}
		errorIs(t, "sizes", gemm.Mul(0, x, y, 1, z), want)
		is(t, "sizes", z.D, was) // of finite numbers, 0 times the product adds nothing
	}
}

func TestWhichErrorComesFirst(t *testing.T) {
	was := []float64{1, 2, 3, 4, 5, 6, 7, 8}
	d := mat(1, 8, was...).D
	m := func(off, rows, cols, ld int) api.Mat { return api.Mat{D: d, Off: off, Rows: rows, Cols: cols, Ld: ld} }
	apart := view.Dense(2, 2, 1, 2, 3, 4)
	for _, c := range []struct {
		what    string
		x, y, z api.Mat
		want    api.Errno
	}{
		{"x isn't right, sizes that differ, z meets y", m(0, 3, 4, 2), m(0, 2, 2, 2), m(0, 3, 2, 3), api.ErrArg},
		{"y isn't right, sizes that differ, z meets x", m(0, 2, 2, 2), m(0, 3, 4, 2), m(0, 2, 3, 2), api.ErrArg},
		{"z isn't right, sizes that differ, x is y", m(0, 2, 2, 2), m(0, 2, 2, 2), m(0, 3, 4, 2), api.ErrArg},
		{"x' Cols differ, z meets x", m(0, 2, 1, 2), m(4, 2, 2, 2), m(0, 2, 2, 2), api.ErrSize},
		{"z's Rows differ, z meets x", m(0, 2, 2, 2), m(4, 2, 2, 2), m(0, 1, 2, 2), api.ErrSize},
		{"z's Cols differ, z meets y", m(0, 2, 2, 2), m(4, 2, 2, 2), m(4, 2, 1, 2), api.ErrSize},
		{"z's Cols differ, nothing is summed over", m(0, 2, 0, 2), m(0, 0, 2, 2), m(0, 2, 1, 2), api.ErrSize},
		{"z meets x", m(0, 2, 2, 2), apart, m(3, 2, 2, 2), api.ErrApart},
		{"z meets y", apart, m(0, 2, 2, 2), m(3, 2, 2, 2), api.ErrApart},
		{"z is x", m(0, 2, 2, 2), apart, m(0, 2, 2, 2), api.ErrApart},
		{"z is y", apart, m(4, 2, 2, 2), m(4, 2, 2, 2), api.ErrApart},
		{"all are one", m(1, 2, 2, 2), m(1, 2, 2, 2), m(1, 2, 2, 2), api.ErrApart},
		{"z stands between x' columns", m(0, 1, 2, 6), view.Dense(2, 1, 1, 2), m(3, 1, 1, 1), api.ErrApart},
		{"z stands between y's columns", view.Dense(1, 1, 2), m(0, 1, 2, 7), m(2, 1, 2, 2), api.ErrApart},
		{"x stands between z's columns", m(3, 1, 1, 1), view.Dense(1, 2, 1, 2), m(0, 1, 2, 7), api.ErrApart},
		{"y stands between z's columns", view.Dense(1, 1, 2), m(2, 1, 2, 2), m(0, 1, 2, 7), api.ErrApart},
	} {
		errorIs(t, c.what, gemm.Mul(2, c.x, c.y, 0, c.z), c.want)
	}
	is(t, "beside errors", d, was)
}

// P11.2: ordinary products of many

// densely looks whether m is a new matrix of so many rows and columns as Dense makes it.
func densely(t *testing.T, what string, m api.Mat, rows, cols int) {
	t.Helper()
	if m.Off != 0 || m.Rows != rows || m.Cols != cols || m.Ld != max(1, rows) || len(m.D) != rows*cols {
		t.Errorf("%s: %v isn't dense, of %d and %d", what, m, rows, cols)
	}
}

// productIs looks whether the product of l is a new matrix of these numbers, row by row, and nothing of l changes, however the matrices are laid.
func productIs(t *testing.T, what string, l []api.Mat, rows, cols int, want ...float64) {
	t.Helper()
	for k, w := range layings() {
		all, was := make([]api.Mat, len(l)), make([][]float64, len(l))
		for i, m := range l {
			all[i] = laid(layings()[(k+i)%len(layings())], m.Rows, m.Cols, byRows(m)...)
			was[i] = slices.Clone(all[i].D)
		}
		p, e := gemm.Product(all...)
		errorIs(t, what, e, api.OK)
		densely(t, what, p, rows, cols)
		is(t, what, byRows(p), want)
		for i := range p.D {
			p.D[i] = float64(w.off)
		}
		for i, m := range all {
			is(t, what+", as it was", m.D, was[i])
		}
	}
}

func TestProduct(t *testing.T) {
	a, b := view.Dense(2, 3, 1, 2, 3, 4, 5, 6), view.Dense(3, 2, 1, 0, 0, 1, 1, 1)
	productIs(t, "one", []api.Mat{a}, 2, 3, 1, 2, 3, 4, 5, 6)
	productIs(t, "the document's", []api.Mat{view.Dense(2, 2, 1, 2, 3, 4), view.Dense(2, 1, 5, 6)}, 2, 1, 17, 39)
	productIs(t, "two", []api.Mat{a, b}, 2, 2, 4, 5, 10, 11)
	productIs(t, "two turned about", []api.Mat{b, a}, 3, 3, 1, 2, 3, 4, 5, 6, 5, 7, 9)
	productIs(t, "three", []api.Mat{a, b, view.Dense(2, 1, 1, 1)}, 2, 1, 9, 21)
	productIs(t, "a column and rows", []api.Mat{view.Dense(2, 1, 1, -2), view.Dense(1, 2, 3, 4), view.Dense(2, 3, 1, 0, 2, 0, 1, -1)}, 2, 3, 3, 4, 2, -6, -8, -4)
	productIs(t, "one number each", []api.Mat{view.Dense(1, 1, 2), view.Dense(1, 1, -3), view.Dense(1, 1, 0.5), view.Dense(1, 1, 7)}, 1, 1, -21)
	productIs(t, "many of one", slices.Repeat([]api.Mat{view.Dense(2, 2, 1, 1, 0, 1)}, 1000), 2, 2, 1, 1000, 0, 1)
}

func TestProductOfOneIsItsNumbers(t *testing.T) {
	l := odd()
	productIs(t, "of all kinds", []api.Mat{view.Dense(len(l), 1, l...)}, len(l), 1, l...)
	m := view.Dense(3, 3, 1, nought, 3, 4, nan, 6, 7, inf, -tiny)
	p, e := gemm.Product(view.Part(m, 1, 1, 2, 2))
	errorIs(t, "a part", e, api.OK)
	densely(t, "a part", p, 2, 2)
	is(t, "a part", byRows(p), []float64{nan, 6, inf, -tiny})
	p.D[0] = 5
	is(t, "in new memory", byRows(m), []float64{1, nought, 3, 4, nan, 6, 7, inf, -tiny})
}

func TestProductOfNoNumbers(t *testing.T) {
	productIs(t, "nothing", []api.Mat{mat(0, 0)}, 0, 0)
	productIs(t, "no rows", []api.Mat{mat(0, 3)}, 0, 3)
	productIs(t, "no columns", []api.Mat{mat(3, 0)}, 3, 0)
	productIs(t, "nothing summed over", []api.Mat{mat(2, 0), mat(0, 3)}, 2, 3, 0, 0, 0, 0, 0, 0)
	productIs(t, "nothing summed over, then something", []api.Mat{mat(2, 0), mat(0, 2), mat(2, 1, -1, 5)}, 2, 1, 0, 0)
	productIs(t, "nothing summed over, times infinity", []api.Mat{mat(1, 0), mat(0, 1), mat(1, 2, 3, inf)}, 1, 2, 0, nan)
	productIs(t, "something, then nothing", []api.Mat{mat(2, 2, 1, 2, 3, nan), mat(2, 0)}, 2, 0)
	productIs(t, "nothing, then something", []api.Mat{mat(0, 2), mat(2, 2, 1, 2, 3, nan)}, 0, 2)
	productIs(t, "no rows or columns", []api.Mat{mat(0, 64), mat(64, 0)}, 0, 0)
	far := api.Mat{Off: most, Rows: 0, Cols: 2, Ld: most}
	p, e := gemm.Product(far)
	errorIs(t, "far off", e, api.OK)
	densely(t, "far off", p, 0, 2)
}

func TestProductGoesFromTheLeft(t *testing.T) {
	one := func(x float64) api.Mat { return view.Dense(1, 1, x) }
	productIs(t, "beyond the greatest", []api.Mat{one(two(600)), one(two(600)), one(two(-600))}, 1, 1, inf)
	productIs(t, "below the least", []api.Mat{one(two(-600)), one(two(-600)), one(two(600))}, 1, 1, 0)
	productIs(t, "just not", []api.Mat{one(two(600)), one(two(-600)), one(two(-600))}, 1, 1, two(-600))
	productIs(t, "nor here", []api.Mat{one(two(-600)), one(two(600)), one(two(600))}, 1, 1, two(600))
	x := view.Dense(1, 2, 1, two(-53))
	productIs(t, "rounded at the left", []api.Mat{x, view.Dense(2, 2, 1, 1, 1, 1), view.Dense(2, 1, 1, -1)}, 1, 1, 0)
	productIs(t, "rounded at the left, not 0", []api.Mat{view.Dense(1, 1, 3), view.Dense(1, 1, 0.1), view.Dense(1, 1, 10)}, 1, 1, times(times(3, 0.1), 10))
}

func TestProductIsMuls(t *testing.T) {
	productIs(t, "-0", []api.Mat{view.Dense(1, 1, nought), view.Dense(1, 1, 1)}, 1, 1, 0)
	productIs(t, "-0 by what is on the diagonal", []api.Mat{view.Dense(1, 2, nought, 3), view.Dense(2, 2, 1, 0, 0, 1)}, 1, 2, 0, 3)
	productIs(t, "infinity times 0", []api.Mat{view.Dense(1, 2, inf, 3), view.Dense(2, 2, 1, 0, 0, 1)}, 1, 2, inf, nan)
	productIs(t, "a NaN", []api.Mat{view.Dense(2, 1, nan, 3), view.Dense(1, 2, 1, 0)}, 2, 2, nan, nan, 3, 0)
	productIs(t, "overflows", []api.Mat{view.Dense(1, 2, top, top), view.Dense(2, 1, 1, 1)}, 1, 1, inf)
	for k := range 40 {
		sizes := []int{k%5 + 1, k%3 + 1, k%4 + 1, k%7 + 1, k%2 + 1}[:k%4+2]
		l := make([]api.Mat, len(sizes)-1)
		var want []float64
		for i := range l {
			n := sizes[i] * sizes[i+1]
			l[i] = view.Dense(sizes[i], sizes[i+1], anyFloats(uint64(10*k+i), n, 20)...)
			if i == 0 {
				want = byRows(l[0])
				continue
			}
			want = problem{1, sizes[0], sizes[i], sizes[i+1], want, byRows(l[i]), 0, make([]float64, sizes[0]*sizes[i+1])}.want()
		}
		productIs(t, "many", l, sizes[0], sizes[len(sizes)-1], want...)
	}
}

func TestProductOfTheGreatestSize(t *testing.T) {
	p := problem{1, 64, 64, 64, anyFloats(1, 64*64, 4), anyFloats(2, 64*64, 4), 0, make([]float64, 64*64)}
	x, y := view.Dense(64, 64, p.x...), view.Dense(64, 64, p.y...)
	z, e := gemm.Product(x, y)
	errorIs(t, "64", e, api.OK)
	densely(t, "64", z, 64, 64)
	is(t, "64", byRows(z), p.want())
	z, e = gemm.Product(x)
	errorIs(t, "64 alone", e, api.OK)
	densely(t, "64 alone", z, 64, 64)
	is(t, "64 alone", byRows(z), p.x)
}

func TestProductOfMatricesThatMeet(t *testing.T) {
	m := view.Dense(2, 2, 1, 2, 3, 4)
	p, e := gemm.Product(m, m, m)
	errorIs(t, "one thrice", e, api.OK)
	is(t, "one thrice", byRows(p), []float64{37, 54, 81, 118})
	p, e = gemm.Product(view.Part(m, 0, 0, 1, 2), view.Part(m, 0, 1, 2, 1))
	errorIs(t, "a row and a column that cross", e, api.OK)
	is(t, "a row and a column that cross", byRows(p), []float64{10})
	is(t, "as it was", byRows(m), []float64{1, 2, 3, 4})
}

// P11.2: errors

// nothing looks whether the product of l is that error, and a zero matrix.
func nothing(t *testing.T, what string, want api.Errno, l ...api.Mat) {
	t.Helper()
	p, e := gemm.Product(l...)
	errorIs(t, what, e, want)
	if p.D != nil || p.Off != 0 || p.Rows != 0 || p.Cols != 0 || p.Ld != 0 {
		t.Errorf("%s: %v beside an error", what, p)
	}
}

func TestErrorsOfProduct(t *testing.T) {
	a, b := view.Dense(2, 3, 1, 2, 3, 4, 5, 6), view.Dense(3, 2, 1, 0, 0, 1, 1, 1)
	nothing(t, "of none", api.ErrArg)
	nothing(t, "of an empty list", api.ErrArg, []api.Mat{}...)
	for _, w := range wrong() {
		was := slices.Clone(w.D)
		nothing(t, "one that isn't right", api.ErrArg, w)
		nothing(t, "the first", api.ErrArg, w, a)
		nothing(t, "the last", api.ErrArg, a, w)
		nothing(t, "the last of three", api.ErrArg, a, b, w)
		nothing(t, "the middle one", api.ErrArg, a, w, b)
		nothing(t, "the last, behind sizes that differ", api.ErrArg, a, a, w)
		nothing(t, "the last, behind one that is too great", api.ErrArg, mat(65, 1, make([]float64, 65)...), w)
		is(t, "as it was", w.D, was)
	}
}

func TestSizesOfProducts(t *testing.T) {
	zeros := func(rows, cols int) api.Mat { return mat(rows, cols, make([]float64, rows*cols)...) }
	nothing(t, "two that differ", api.ErrSize, zeros(2, 3), zeros(2, 3))
	nothing(t, "the first two", api.ErrSize, zeros(2, 1), zeros(2, 3), zeros(3, 2))
	nothing(t, "the last two", api.ErrSize, zeros(2, 3), zeros(3, 2), zeros(1, 2))
	nothing(t, "though those beyond fit", api.ErrSize, zeros(2, 3), zeros(1, 1), zeros(3, 2))
	nothing(t, "no rows", api.ErrSize, zeros(2, 2), zeros(0, 2))
	nothing(t, "no columns", api.ErrSize, zeros(2, 0), zeros(2, 2))
	nothing(t, "without numbers", api.ErrSize, zeros(0, 0), zeros(0, 2), zeros(0, 2))
	nothing(t, "65 rows", api.ErrSize, zeros(65, 1))
	nothing(t, "65 columns", api.ErrSize, zeros(1, 65))
	nothing(t, "65 rows, first", api.ErrSize, zeros(65, 1), zeros(1, 1))
	nothing(t, "65 columns, last", api.ErrSize, zeros(1, 1), zeros(1, 65))
	nothing(t, "65 within", api.ErrSize, zeros(1, 65), zeros(65, 1))
	nothing(t, "65 within three", api.ErrSize, zeros(1, 1), zeros(1, 65), zeros(65, 1))
	nothing(t, "65 rows without columns", api.ErrSize, zeros(65, 0))
	nothing(t, "65 columns without rows", api.ErrSize, zeros(0, 65), zeros(65, 0))
	for _, n := range []int{65, 1 << 31, most} {
		wide, high := api.Mat{Cols: n, Ld: 1}, api.Mat{Rows: n, Ld: n}
		nothing(t, "many columns without rows", api.ErrSize, wide)
		nothing(t, "many rows without columns", api.ErrSize, high)
		nothing(t, "many within", api.ErrSize, wide, high)
		nothing(t, "many without", api.ErrSize, high, wide)
		nothing(t, "many behind", api.ErrSize, zeros(1, 1), zeros(1, 0), wide)
		nothing(t, "many ahead", api.ErrSize, high, zeros(0, 1))
	}
	productIs(t, "64 within", []api.Mat{zeros(1, 64), zeros(64, 1)}, 1, 1, 0)
	productIs(t, "64 without", []api.Mat{zeros(64, 1), zeros(1, 64)}, 64, 64, make([]float64, 64*64)...)
}

// P1

func edges() []int { return []int{least, -1, 0, 1, 2, 3, 4, 1 << 31, 1 << 62, most - 1, most} }

func TestEveryCallEnds(t *testing.T) {
	for _, l := range [][]float64{nil, {1, 2, 3, 4}} {
		for _, off := range edges() {
			for _, rows := range edges() {
				for _, cols := range edges() {
					for _, ld := range edges() {
						anyMatrix(t, api.Mat{D: slices.Clone(l), Off: off, Rows: rows, Cols: cols, Ld: ld})
					}
				}
			}
		}
	}
}

// expected is what a call answers of m, if it asks that much of it besides.
func expected(m api.Mat, fits bool) api.Errno {
	switch {
	case !view.Good(m):
		return api.ErrArg
	case !fits:
		return api.ErrSize
	}
	return api.OK
}

// anyMatrix looks whether each call tells of m whether it is right, and of the size that it asks for.
func anyMatrix(t *testing.T, m api.Mat) {
	t.Helper()
	two := func() api.Mat { return view.Dense(2, 2, 1, 2, 3, 4) }
	square := m.Rows == 2 && m.Cols == 2
	errorIs(t, "Mul of it", gemm.Mul(1, m, two(), 1, two()), expected(m, square))
	errorIs(t, "Mul by it", gemm.Mul(1, two(), m, 1, two()), expected(m, square))
	errorIs(t, "Mul to it", gemm.Mul(0, two(), two(), 1, m), expected(m, square))
	want := expected(m, m.Rows == m.Cols)
	if want == api.OK && m.Rows > 0 {
		want = api.ErrApart
	}
	errorIs(t, "Mul of it, by it, to it", gemm.Mul(1, m, m, 1, m), want)
	size := max(m.Rows, m.Cols) <= api.MaxSize
	for _, c := range []struct {
		l    []api.Mat
		fits bool
	}{
		{[]api.Mat{m}, size},
		{[]api.Mat{m, two()}, size && m.Cols == 2},
		{[]api.Mat{two(), m}, size && m.Rows == 2},
		{[]api.Mat{m, m}, size && m.Rows == m.Cols},
	} {
		p, e := gemm.Product(c.l...)
		errorIs(t, "Product", e, expected(m, c.fits))
		if want := e == api.OK; view.Good(p) != want {
			t.Errorf("Product: %v beside error %d", p, int(e))
		}
	}
}
