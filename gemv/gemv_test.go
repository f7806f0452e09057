package gemv_test

import (
	"math"
	"math/big"
	"slices"
	"testing"

	"straightedge/api"
	"straightedge/gemv"
	"straightedge/num"
	"straightedge/view"
)

const (
	most  = math.MaxInt
	least = math.MinInt
	top   = math.MaxFloat64
	tiny  = math.SmallestNonzeroFloat64
	guard = -77.5 // what stands between the numbers, beside them and behind the list
)

var (
	inf    = math.Inf(1)
	nan    = math.NaN()
	nought = math.Copysign(0, -1)
)

// two is 2^k.
func two(k int) float64 { return math.Ldexp(1, k) }

// odd are numbers of all kinds.
func odd() []float64 {
	return []float64{
		0, nought, tiny, -3 * tiny, two(-1022), -two(-600), 0.1, -0.5, 1, -1, 1 + two(-52), 1 + two(-30), -1 - two(-29),
		3, -7, 1e16, two(600), -two(970), top, -top, inf, -inf, nan,
	}
}

// laying is a way to lay numbers in a list: vectors with that Inc, matrices with an Ld that is Inc - 1 more than it must be.
type laying struct{ off, inc, after int }

func layings() []laying {
	return []laying{{0, 1, 0}, {3, 1, 2}, {0, 2, 0}, {1, 3, 4}}
}

// list is a list of n numbers and w's, all guards, with guards behind its length.
func list(w laying, n int) []float64 {
	d := slices.Repeat([]float64{guard}, w.off+n+w.after+5)
	return d[:len(d)-5]
}

// laid is a vector of the numbers l, with guards everywhere else.
func laid(w laying, l ...float64) api.Vec {
	n := 0
	if len(l) > 0 {
		n = (len(l)-1)*w.inc + 1
	}
	v := api.Vec{D: list(w, n), Off: w.off, N: len(l), Inc: w.inc}
	for i, x := range l {
		v.D[w.off+i*w.inc] = x
	}
	return v
}

// vec is a vector of the numbers l and no more.
func vec(l ...float64) api.Vec { return laid(laying{inc: 1}, l...) }

// table is a matrix of the numbers l, row by row, with guards everywhere else.
func table(w laying, rows, cols int, l ...float64) api.Mat {
	ld, n := max(1, rows)+w.inc-1, 0
	if rows > 0 && cols > 0 {
		n = (cols-1)*ld + rows
	}
	m := api.Mat{D: list(w, n), Off: w.off, Rows: rows, Cols: cols, Ld: ld}
	for k, x := range l {
		m.D[w.off+k/cols+k%cols*ld] = x
	}
	return m
}

// is looks whether d is want to the last bit, and its memory behind its length as it was.
func is(t *testing.T, what string, d, want []float64) {
	t.Helper()
	if !slices.EqualFunc(d, want, num.Same) {
		t.Errorf("%s: %v, not %v", what, d, want)
	}
	for _, x := range d[len(d):cap(d)] {
		if x != guard {
			t.Errorf("%s: written behind the list: %v", what, x)
		}
	}
}

func errorIs(t *testing.T, what string, got, want api.Errno) {
	t.Helper()
	if got != want {
		t.Errorf("%s: error %d, not %d", what, int(got), int(want))
	}
}

// wrongVecs are vectors that aren't right, each by a thing of its own.
func wrongVecs() []api.Vec {
	d := vec(1, 2, 3, 4, 5, 6).D
	return []api.Vec{
		{},
		{D: d},
		{D: d, N: 2},
		{D: d, N: 2, Inc: -1},
		{D: d, N: -1, Inc: 1},
		{D: d, N: 2, Off: -1, Inc: 1},
		{D: d, Off: -1, Inc: 1},
		{D: d, N: 7, Inc: 1},
		{D: vec(1, 2).D, N: 3, Inc: 1},
		{D: d, N: 3, Inc: 3},
		{D: d, N: 5, Inc: 1 << 62},
		{D: d, N: 2, Off: most, Inc: most},
		{D: d, N: most, Inc: 1},
		{D: d, N: least, Inc: least, Off: least},
		{N: 1, Inc: 1},
	}
}

// wrongMats are matrices that aren't right, each by a thing of its own.
func wrongMats() []api.Mat {
	d := vec(1, 2, 3, 4, 5, 6).D
	return []api.Mat{
		{},
		{D: d},
		{D: d, Rows: 2, Cols: 2},
		{D: d, Rows: 2, Cols: 2, Ld: 1},
		{D: d, Rows: 2, Cols: 2, Ld: -2},
		{D: d, Rows: -1, Cols: 2, Ld: 2},
		{D: d, Rows: 2, Cols: -1, Ld: 2},
		{D: d, Off: -1, Rows: 2, Cols: 2, Ld: 2},
		{D: d, Off: 3, Rows: 2, Cols: 2, Ld: 2},
		{D: d, Rows: 2, Cols: 2, Ld: 5},
		{D: d, Rows: 2, Cols: 4, Ld: 2},
		{D: d, Rows: 2, Cols: 5, Ld: 1 << 62},
		{D: d, Rows: most, Cols: most, Ld: most, Off: most},
		{D: d, Rows: least, Cols: least, Ld: least, Off: least},
		{D: d, Ld: 0, Rows: 0, Cols: 2},
		{Rows: 1, Cols: 1, Ld: 1},
	}
}

// none are vectors that are right, without numbers.
func none() []api.Vec {
	d := vec(1, 2, 3).D
	return []api.Vec{{Inc: 1}, {Inc: most, Off: most}, {D: d, Inc: 1}, {D: d, Inc: 2, Off: 9}, {D: d, Off: most, Inc: most}}
}

// anyFloats are n floats that look like chance and are the same each time: their Exps are about from -wide to wide.
func anyFloats(seed uint64, n, wide int) []float64 {
	l := make([]float64, n)
	for i := range l {
		seed = seed*6364136223846793005 + 1442695040888963407
		x := float64(int64(seed)) / (1 << 63)
		seed = seed*6364136223846793005 + 1442695040888963407
		l[i] = math.Ldexp(x, int(seed>>33)%(2*wide+1)-wide)
	}
	return l
}

// exactly is x, with room for all digits of a sum and a product of floats.
func exactly(x float64) *big.Float { return new(big.Float).SetPrec(5000).SetFloat64(x) }

// times and plus are what IEEE 754 makes of two numbers: exactly, then rounded once. Infinities and NaNs are left to the machine.
func times(x, y float64) float64 {
	if !num.Finite(x, y) {
		return x * y
	}
	p, _ := new(big.Float).SetPrec(5000).Mul(exactly(x), exactly(y)).Float64()
	return p
}

func plus(x, y float64) float64 {
	if x == 0 && y == 0 || !num.Finite(x, y) {
		return x + y // noughts by their signs, of which the exact sum knows another rule
	}
	s, _ := new(big.Float).SetPrec(5000).Add(exactly(x), exactly(y)).Float64()
	return s
}

// problem is what a product is of: m row by row.
type problem struct {
	a          float64
	rows, cols int
	m, x       []float64
	b          float64
	y          []float64
}

func (p problem) begun() []float64 {
	l := make([]float64, len(p.y))
	for i, y := range p.y {
		if p.b != 0 {
			l[i] = times(p.b, y)
		}
	}
	return l
}

// mul, mulT and abs are what the document's words make of p, number by number of y.
func (p problem) mul() []float64 {
	l := p.begun()
	for i := range l {
		for j, x := range p.x {
			l[i] = plus(l[i], times(times(p.a, x), p.m[i*p.cols+j]))
		}
	}
	return l
}

func (p problem) mulT() []float64 {
	l := p.begun()
	for j := range l {
		s := 0.0
		for i, x := range p.x {
			s = plus(s, times(p.m[i*p.cols+j], x))
		}
		l[j] = plus(l[j], times(p.a, s))
	}
	return l
}

func (p problem) abs() []float64 {
	l := slices.Clone(p.y)
	for i := range l {
		for j, x := range p.x {
			l[i] = plus(l[i], times(math.Abs(p.m[i*p.cols+j]), math.Abs(x)))
		}
	}
	return l
}

// kind is one of the three products.
type kind func(p problem, m api.Mat, x, y api.Vec) api.Errno

func mul(p problem, m api.Mat, x, y api.Vec) api.Errno  { return gemv.Mul(p.a, m, x, p.b, y) }
func mulT(p problem, m api.Mat, x, y api.Vec) api.Errno { return gemv.MulT(p.a, m, x, p.b, y) }
func abs(p problem, m api.Mat, x, y api.Vec) api.Errno  { return gemv.Abs(m, x, y) }

// comesTo looks whether y comes to want, however m, x and y are laid, and nothing else changes.
func comesTo(t *testing.T, what string, k kind, p problem, want []float64) {
	t.Helper()
	for _, wm := range layings() {
		for _, wx := range layings() {
			for _, wy := range layings() {
				m, x, y := table(wm, p.rows, p.cols, p.m...), laid(wx, p.x...), laid(wy, p.y...)
				errorIs(t, what, k(p, m, x, y), api.OK)
				is(t, what, y.D, laid(wy, want...).D)
				is(t, what+", m", m.D, table(wm, p.rows, p.cols, p.m...).D)
				is(t, what+", x", x.D, laid(wx, p.x...).D)
			}
		}
	}
}

// turned is p with m's rows for its columns.
func (p problem) turned() problem {
	l := make([]float64, 0, len(p.m))
	for j := range p.cols {
		for i := range p.rows {
			l = append(l, p.m[i*p.cols+j])
		}
	}
	p.m, p.rows, p.cols = l, p.cols, p.rows
	return p
}

// both looks at Mul of p and at MulT of p turned, where they come to the same.
func both(t *testing.T, what string, p problem, want ...float64) {
	t.Helper()
	comesTo(t, what+", Mul", mul, p, want)
	comesTo(t, what+", MulT", mulT, p.turned(), want)
}

// P7.1: ordinary products

func TestProducts(t *testing.T) {
	m := []float64{1, 2, 3, 4, 5, 6}
	both(t, "two and three", problem{2, 2, 3, m, []float64{1, 0, -1}, 3, []float64{1, 1}}, -1, -1)
	both(t, "three and two", problem{-1, 3, 2, m, []float64{1, 2}, 0, []float64{7, 7, 7}}, -5, -11, -17)
	both(t, "the document's", problem{1, 2, 2, []float64{1, 2, 3, 4}, []float64{5, 6}, 0, []float64{8, 9}}, 17, 39)
	both(t, "one number", problem{0.5, 1, 1, []float64{3}, []float64{-4}, 10, []float64{2}}, 14)
	both(t, "one row", problem{1, 1, 3, []float64{1, -2, 4}, []float64{3, 5, 0.25}, 1, []float64{100}}, 94)
	both(t, "one column", problem{1, 3, 1, []float64{1, -2, 4}, []float64{3}, -1, []float64{1, 2, 3}}, 2, -8, 9)
	comesTo(t, "Abs", abs, problem{m: []float64{-1, 2}, rows: 1, cols: 2, x: []float64{3, -4}, y: []float64{-1}}, []float64{10})
	comesTo(t, "Abs of two rows", abs, problem{m: []float64{-1, 2, 0, -5}, rows: 2, cols: 2, x: []float64{3, -4}, y: []float64{1, -9}}, []float64{12, 11})
	comesTo(t, "Abs of one number", abs, problem{m: []float64{-3}, rows: 1, cols: 1, x: []float64{-4}, y: []float64{-20}}, []float64{-8})
	comesTo(t, "Abs leaves the sign of y", abs, problem{m: []float64{0, 0}, rows: 2, cols: 1, x: []float64{-4}, y: []float64{-20, 20}}, []float64{-20, 20})
}

func TestProductsOfNoNumbers(t *testing.T) {
	both(t, "no columns", problem{2, 2, 0, nil, nil, 3, []float64{5, -1}}, 15, -3)
	both(t, "no columns, begun with 0", problem{2, 2, 0, nil, nil, 0, []float64{nan, -1}}, 0, 0)
	both(t, "no rows", problem{2, 0, 2, nil, []float64{1, nan}, 3, nil})
	both(t, "nothing", problem{2, 0, 0, nil, nil, 3, nil})
	comesTo(t, "Mul without columns adds nothing", mul, problem{nan, 2, 0, nil, nil, 1, []float64{nought, 3}}, []float64{nought, 3})
	comesTo(t, "MulT without rows adds a times +0", mulT, problem{1, 0, 2, nil, nil, 1, []float64{nought, 3}}, []float64{0, 3})
	comesTo(t, "MulT without rows, a below 0", mulT, problem{-1, 0, 2, nil, nil, 1, []float64{nought, 3}}, []float64{nought, 3})
	comesTo(t, "MulT without rows, a infinite", mulT, problem{inf, 0, 2, nil, nil, 1, []float64{nought, 3}}, []float64{nan, nan})
	comesTo(t, "MulT without rows, a NaN", mulT, problem{nan, 0, 2, nil, nil, 0, []float64{nought, 3}}, []float64{nan, nan})
	comesTo(t, "Abs without columns", abs, problem{rows: 2, y: []float64{nought, -3}}, []float64{nought, -3})
	comesTo(t, "Abs without rows", abs, problem{cols: 2, x: []float64{5, nan}}, nil)
	comesTo(t, "Abs of nothing", abs, problem{}, nil)
}

func TestProductsOfNoNumbersAnywhere(t *testing.T) {
	d := vec(1, 2, 3).D
	for _, m := range []api.Mat{{Ld: 1}, {D: d, Off: most, Ld: most}, {D: d, Ld: 1}} {
		for _, x := range none() {
			for _, y := range none() {
				errorIs(t, "Mul of nothing", gemv.Mul(nan, m, x, 2, y), api.OK)
				errorIs(t, "MulT of nothing", gemv.MulT(nan, m, x, 2, y), api.OK)
				errorIs(t, "Abs of nothing", gemv.Abs(m, x, y), api.OK)
				is(t, "nothing", d, []float64{1, 2, 3})
			}
		}
	}
	x, y := vec(1, 2), vec(3, 4)
	wide, high := api.Mat{D: x.D, Off: most, Cols: 2, Ld: most}, api.Mat{D: y.D, Off: most, Rows: 2, Ld: most}
	for _, v := range none() {
		errorIs(t, "Mul, no rows", gemv.Mul(2, wide, x, 2, v), api.OK)
		errorIs(t, "MulT, no columns", gemv.MulT(2, high, x, 2, v), api.OK)
		errorIs(t, "Abs, no rows", gemv.Abs(wide, x, v), api.OK)
		errorIs(t, "Mul, no columns", gemv.Mul(2, high, v, -1, y), api.OK)
		errorIs(t, "MulT, no rows", gemv.MulT(2, wide, v, -1, y), api.OK)
		errorIs(t, "Abs, no columns", gemv.Abs(high, v, y), api.OK)
		is(t, "x", x.D, []float64{1, 2})
		is(t, "y", y.D, []float64{3, 4})
	}
}

func TestProductsOfOneNumberFarApart(t *testing.T) {
	m := api.Mat{D: vec(9, 9, 5).D, Off: 2, Rows: 1, Cols: 1, Ld: most}
	x, y := vec(9, 7, 9), vec(8, 8, 3)
	x.Off, x.N, x.Inc, y.Off, y.N, y.Inc = 1, 1, most, 2, 1, 1<<62
	errorIs(t, "Mul", gemv.Mul(2, m, x, 1, y), api.OK)
	is(t, "Mul", y.D, []float64{8, 8, 73})
	errorIs(t, "MulT", gemv.MulT(-2, m, x, 1, y), api.OK)
	is(t, "MulT", y.D, []float64{8, 8, 3})
	errorIs(t, "Abs", gemv.Abs(m, x, y), api.OK)
	is(t, "Abs", y.D, []float64{8, 8, 38})
}

// P7.1: what y is begun with

func TestBegun(t *testing.T) {
	was := []float64{5, -1, 0, nought, nan, inf, -inf, top}
	m, x := slices.Repeat([]float64{2}, len(was)), []float64{3}
	for _, b := range []float64{0, nought} {
		both(t, "with 0", problem{1, len(was), 1, m, x, b, was}, 6, 6, 6, 6, 6, 6, 6, 6)
		both(t, "with 0, and 0 added", problem{0, len(was), 1, m, x, b, was}, 0, 0, 0, 0, 0, 0, 0, 0)
		comesTo(t, "with 0, and -0 added", mul, problem{nought, len(was), 1, m, x, b, was}, make([]float64, len(was)))
		comesTo(t, "with 0, and nothing added", mul, problem{1, len(was), 0, nil, nil, b, was}, make([]float64, len(was)))
	}
	both(t, "with 1", problem{1, len(was), 1, m, x, 1, was}, 11, 5, 6, 6, nan, inf, -inf, top)
	both(t, "with -1", problem{1, len(was), 1, m, x, -1, was}, 1, 7, 6, 6, nan, -inf, inf, -top)
	both(t, "with 2", problem{1, len(was), 1, m, x, 2, was}, 16, 4, 6, 6, nan, inf, -inf, inf)
	both(t, "with NaN", problem{1, len(was), 1, m, x, nan, was}, nan, nan, nan, nan, nan, nan, nan, nan)
	both(t, "with infinity", problem{1, len(was), 1, m, x, inf, was}, inf, -inf, nan, nan, nan, inf, -inf, inf)
	both(t, "with the least number", problem{0, len(was), 1, m, x, tiny, was}, 5*tiny, -tiny, 0, 0, nan, inf, -inf, times(tiny, top))
	none := problem{1, len(was), 0, nil, nil, 1, was}
	comesTo(t, "with 1 and nothing else", mul, none, was)
	none.b = -1
	comesTo(t, "with -1 and nothing else", mul, none, []float64{-5, 1, nought, 0, nan, -inf, inf, -top})
	none.b = 0.5
	comesTo(t, "with 1/2 and nothing else", mul, none, []float64{2.5, -0.5, 0, nought, nan, inf, -inf, two(1023) - two(970)})
	none.b = tiny
	comesTo(t, "with what isn't quite 0", mul, none, []float64{5 * tiny, -tiny, 0, nought, nan, inf, -inf, times(tiny, top)})
	both(t, "rounded ahead of what is added", problem{1, 1, 1, []float64{-1 - two(-29)}, []float64{1}, 1 + two(-30), []float64{1 + two(-30)}}, 0)
}

func TestATimesNought(t *testing.T) {
	for _, a := range []float64{0, nought} {
		for _, far := range []float64{inf, -inf, nan} {
			both(t, "a 0, m not finite", problem{a, 2, 2, []float64{1, far, 3, 4}, []float64{1, 2}, 1, []float64{5, 6}}, nan, 6)
			both(t, "a 0, x not finite", problem{a, 2, 2, []float64{1, 2, 3, 4}, []float64{1, far}, 1, []float64{5, 6}}, nan, nan)
			both(t, "a 0, y not finite, begun with 0", problem{a, 1, 1, []float64{1}, []float64{1}, 0, []float64{far}}, 0)
			both(t, "a 0, y not finite", problem{a, 1, 1, []float64{1}, []float64{1}, 1, []float64{far}}, far)
		}
	}
}

// P7.1: order and rounding

func TestWhatComesFirst(t *testing.T) {
	comesTo(t, "a times x, beyond the greatest", mul, problem{two(600), 1, 1, []float64{two(-600)}, []float64{two(600)}, 0, []float64{0}}, []float64{inf})
	comesTo(t, "a times x, below the least", mul, problem{two(-600), 1, 1, []float64{two(600)}, []float64{two(-600)}, 0, []float64{0}}, []float64{0})
	comesTo(t, "not m times x", mul, problem{two(-600), 1, 1, []float64{two(600)}, []float64{two(600)}, 0, []float64{0}}, []float64{two(600)})
	comesTo(t, "nor m times a", mul, problem{two(600), 1, 1, []float64{two(600)}, []float64{two(-600)}, 0, []float64{0}}, []float64{two(600)})
	comesTo(t, "MulT: m times x, beyond the greatest", mulT, problem{two(-600), 1, 1, []float64{two(600)}, []float64{two(600)}, 0, []float64{0}}, []float64{inf})
	comesTo(t, "MulT: not a times x", mulT, problem{two(600), 1, 1, []float64{two(-600)}, []float64{two(600)}, 0, []float64{0}}, []float64{two(600)})
	comesTo(t, "MulT: nor a times m", mulT, problem{two(600), 1, 1, []float64{two(600)}, []float64{two(-600)}, 0, []float64{0}}, []float64{two(600)})
	h := two(-53)
	comesTo(t, "Mul adds each to what is there", mul, problem{1, 1, 2, []float64{h, h}, []float64{1, 1}, 1, []float64{1}}, []float64{1})
	comesTo(t, "MulT adds all to one another first", mulT, problem{1, 2, 1, []float64{h, h}, []float64{1, 1}, 1, []float64{1}}, []float64{1 + two(-52)})
	comesTo(t, "Abs adds each to what is there", abs, problem{m: []float64{h, -h}, rows: 1, cols: 2, x: []float64{1, 1}, y: []float64{1}}, []float64{1})
	comesTo(t, "MulT's sum may go beyond", mulT, problem{1, 2, 1, []float64{top, top}, []float64{1, 1}, 1, []float64{-top}}, []float64{inf})
	comesTo(t, "Mul's may not", mul, problem{1, 1, 2, []float64{top, top}, []float64{1, 1}, 1, []float64{-top}}, []float64{top})
	comesTo(t, "MulT's sum times a", mulT, problem{0.1, 3, 1, []float64{1, 1, 1}, []float64{1, 1, 1}, 0, []float64{0}}, []float64{0.1 * float64(3)})
	both(t, "from the left", problem{1, 1, 3, []float64{1e16, 1, -1e16}, []float64{1, 1, 1}, 0, []float64{0}}, 0)
	both(t, "turned about", problem{1, 1, 3, []float64{1e16, -1e16, 1}, []float64{1, 1, 1}, 0, []float64{0}}, 1)
	both(t, "and with 1 ahead", problem{1, 1, 4, []float64{1, 1, 1e16, -1e16}, []float64{1, 1, 1, 1}, 0, []float64{0}}, 2)
	comesTo(t, "Abs from the left", abs, problem{m: []float64{1, 1, 1e16}, rows: 1, cols: 3, x: []float64{1, 1, 1}, y: []float64{-1e16}}, []float64{0})
	comesTo(t, "Abs turned about", abs, problem{m: []float64{1e16, 1, 1}, rows: 1, cols: 3, x: []float64{1, 1, 1}, y: []float64{-1e16}}, []float64{2})
	comesTo(t, "Abs upwards", abs, problem{m: []float64{h, h, 1}, rows: 1, cols: 3, x: []float64{1, 1, 1}, y: []float64{0}}, []float64{1 + two(-52)})
	comesTo(t, "Abs downwards", abs, problem{m: []float64{1, h, h}, rows: 1, cols: 3, x: []float64{1, 1, 1}, y: []float64{0}}, []float64{1})
}

func TestProductsAreNotFused(t *testing.T) {
	x := 1 + two(-30) // its square is 1 + 2^-29 + 2^-60, rounded without the last
	rest := -1 - two(-29)
	both(t, "m times x, then the sum", problem{1, 1, 2, []float64{-rest, x}, []float64{-1, x}, 0, []float64{7}}, 0)
	both(t, "m times x, then y", problem{1, 1, 1, []float64{x}, []float64{x}, 1, []float64{rest}}, 0)
	both(t, "a times x, then m", problem{x, 1, 1, []float64{1}, []float64{x}, 1, []float64{rest}}, 0)
	both(t, "b times y, then the sum", problem{1, 1, 1, []float64{1}, []float64{rest}, x, []float64{x}}, 0)
	comesTo(t, "a times the sum, then y", mulT, problem{x, 2, 1, []float64{1, two(-30)}, []float64{1, 1}, 1, []float64{rest}}, []float64{0})
	comesTo(t, "Abs", abs, problem{m: []float64{-x}, rows: 1, cols: 1, x: []float64{x}, y: []float64{rest}}, []float64{0})
	both(t, "a product too great", problem{1, 1, 1, []float64{two(1000)}, []float64{two(24)}, 1, []float64{-top}}, inf)
	both(t, "a product too small", problem{1, 1, 1, []float64{two(-600)}, []float64{two(-475)}, 1, []float64{tiny}}, tiny)
	comesTo(t, "Abs, a product too small", abs, problem{m: []float64{-two(-600)}, rows: 1, cols: 1, x: []float64{two(-475)}, y: []float64{tiny}}, []float64{tiny})
}

// P7.1: noughts, overflow, underflow, infinities, NaNs

func TestProductsOfNoughts(t *testing.T) {
	one := func(a, m, x, b, y float64) problem {
		return problem{a, 1, 1, []float64{m}, []float64{x}, b, []float64{y}}
	}
	both(t, "cancels from above", one(1, -1, 1, 1, 1), 0)
	both(t, "cancels from below", one(1, 1, 1, 1, -1), 0)
	both(t, "cancels within", problem{1, 1, 2, []float64{1, -1}, []float64{3, 3}, 0, []float64{8}}, 0)
	both(t, "cancels at the least number", one(1, -tiny, 1, 1, tiny), 0)
	comesTo(t, "Mul: -0 and -0", mul, one(1, nought, 1, 1, nought), []float64{nought})
	comesTo(t, "MulT: the sum begins with +0", mulT, one(1, nought, 1, 1, nought), []float64{0})
	comesTo(t, "MulT: a below 0 times +0", mulT, one(-1, nought, 1, 1, nought), []float64{nought})
	comesTo(t, "MulT: a below 0 times a sum that cancels", mulT, problem{-1, 2, 1, []float64{1, -1}, []float64{3, 3}, 1, []float64{nought}}, []float64{nought})
	comesTo(t, "Mul: a below 0 times both noughts", mul, problem{-1, 1, 2, []float64{1, 1}, []float64{0, nought}, 1, []float64{nought}}, []float64{0})
	comesTo(t, "Mul: a 0 and m below 0", mul, one(0, -5, 1, 1, nought), []float64{nought})
	comesTo(t, "Mul: a -0 and m below 0", mul, one(nought, -5, 1, 1, nought), []float64{0})
	comesTo(t, "Mul: x 0 and m below 0", mul, one(1, -5, 0, 1, nought), []float64{nought})
	comesTo(t, "MulT: x 0 and m below 0", mulT, one(1, -5, 0, 1, nought), []float64{0})
	both(t, "begun with 0, -0 is added", one(1, nought, 1, 0, nought), 0)
	both(t, "begun with -0, -0 is added", one(1, nought, 1, nought, nought), 0)
	comesTo(t, "Mul: -1 times 0, and -0", mul, one(1, 1, nought, -1, 0), []float64{nought})
	comesTo(t, "MulT: -1 times 0, and -0", mulT, one(1, 1, nought, -1, 0), []float64{0})
	comesTo(t, "Abs of -0 to -0", abs, one(0, nought, nought, 0, nought), []float64{0})
	comesTo(t, "Abs of -0 to 0", abs, one(0, nought, -1, 0, 0), []float64{0})
	comesTo(t, "Abs cancels", abs, one(0, -1, 1, 0, -1), []float64{0})
	comesTo(t, "Abs of what is too small, to -0", abs, one(0, -two(-600), two(-600), 0, nought), []float64{0})
	comesTo(t, "Mul of what is too small, below 0, to -0", mul, one(1, -two(-600), two(-600), 1, nought), []float64{nought})
	comesTo(t, "MulT of what is too small, below 0, to -0", mulT, one(1, -two(-600), two(-600), 1, nought), []float64{0})
}

func TestProductsThatOverflowAndUnderflow(t *testing.T) {
	both(t, "a product", problem{1, 1, 2, []float64{two(600), 1}, []float64{two(600), -1}, 0, []float64{0}}, inf)
	both(t, "a sum", problem{1, 1, 2, []float64{top, two(970)}, []float64{1, 1}, 0, []float64{0}}, inf)
	both(t, "just not", problem{1, 1, 2, []float64{top, two(969)}, []float64{1, 1}, 0, []float64{0}}, top)
	both(t, "both signs", problem{1, 1, 2, []float64{two(600), -two(600)}, []float64{two(600), two(600)}, 0, []float64{0}}, nan)
	both(t, "doesn't come back", problem{1, 1, 3, []float64{top, top, -top}, []float64{1, 1, 1}, 0, []float64{0}}, inf)
	both(t, "b times y", problem{1, 1, 1, []float64{1}, []float64{1}, 2, []float64{-top}}, -inf)
	both(t, "subnormal products", problem{1, 1, 2, []float64{two(-600), -two(-500)}, []float64{3 * two(-474), 5 * two(-574)}, 0, []float64{0}}, -2*tiny)
	both(t, "halves of the least number", problem{1, 1, 2, []float64{two(-600), two(-600)}, []float64{two(-475), 3 * two(-475)}, 0, []float64{0}}, 2*tiny)
	both(t, "b times y is subnormal", problem{1, 1, 1, []float64{tiny}, []float64{1}, 0.5, []float64{3 * tiny}}, 3*tiny)
	comesTo(t, "Abs overflows", abs, problem{m: []float64{-two(600), 1}, rows: 1, cols: 2, x: []float64{two(600), 1}, y: []float64{-top}}, []float64{inf})
	comesTo(t, "Abs' sum overflows", abs, problem{m: []float64{-top}, rows: 1, cols: 1, x: []float64{-1}, y: []float64{two(970)}}, []float64{inf})
	comesTo(t, "Abs of subnormals", abs, problem{m: []float64{-two(-600), -tiny}, rows: 1, cols: 2, x: []float64{3 * two(-475), 5}, y: []float64{-tiny}}, []float64{6 * tiny})
}

func TestProductsOfInfinities(t *testing.T) {
	both(t, "in m", problem{2, 2, 2, []float64{1, inf, -inf, 1}, []float64{1, 1}, 1, []float64{5, 6}}, inf, -inf)
	both(t, "in x", problem{-1, 2, 2, []float64{1, 2, 3, -4}, []float64{1, inf}, 1, []float64{5, 6}}, -inf, inf)
	both(t, "in y", problem{1, 2, 1, []float64{1, 2}, []float64{1}, -1, []float64{inf, -inf}}, -inf, inf)
	both(t, "as a", problem{inf, 2, 1, []float64{1, -2}, []float64{1}, 1, []float64{5, 6}}, inf, -inf)
	both(t, "of both signs", problem{1, 1, 2, []float64{inf, -inf}, []float64{1, 1}, 1, []float64{5}}, nan)
	both(t, "of both signs by y", problem{1, 1, 1, []float64{inf}, []float64{1}, 1, []float64{-inf}}, nan)
	both(t, "times 0", problem{1, 2, 2, []float64{1, inf, 3, 4}, []float64{1, 0}, 1, []float64{5, 6}}, nan, 9)
	both(t, "0 times", problem{1, 2, 2, []float64{1, 0, 3, 4}, []float64{1, -inf}, 1, []float64{5, 6}}, nan, -inf)
	both(t, "as a, times 0", problem{inf, 2, 1, []float64{0, 1}, []float64{1}, 1, []float64{5, 6}}, nan, inf)
	comesTo(t, "as a times x's 0", mul, problem{inf, 2, 2, []float64{1, 1, 1, 1}, []float64{1, 0}, 1, []float64{5, 6}}, []float64{nan, nan})
	comesTo(t, "as a times a sum with a 0", mulT, problem{inf, 2, 2, []float64{1, 1, 1, 1}, []float64{1, 0}, 1, []float64{5, 6}}, []float64{inf, inf})
	comesTo(t, "Abs", abs, problem{m: []float64{1, -inf, 3, 0}, rows: 2, cols: 2, x: []float64{1, -2}, y: []float64{5, -inf}}, []float64{inf, -inf})
	comesTo(t, "Abs of both signs", abs, problem{m: []float64{-inf}, rows: 1, cols: 1, x: []float64{-2}, y: []float64{-inf}}, []float64{nan})
	comesTo(t, "Abs times 0", abs, problem{m: []float64{nought}, rows: 1, cols: 1, x: []float64{-inf}, y: []float64{1}}, []float64{nan})
}

func TestProductsWithANaNAtEachPlace(t *testing.T) {
	base := func() problem {
		return problem{2, 3, 3, []float64{1, 2, 3, 4, 5, 6, 7, 8, 9}, []float64{0, 1, -1}, 1, []float64{10, 20, 30}}
	}
	for k := range 9 {
		p := base()
		p.m[k] = nan
		want := []float64{8, 18, 28}
		want[k/3] = nan
		both(t, "in m", p, want...)
		want = []float64{15, 31, 47}
		want[k/3] = nan
		comesTo(t, "in m, Abs", abs, p, want)
	}
	for k := range 3 {
		p := base()
		p.x[k] = nan
		both(t, "in x", p, nan, nan, nan)
		comesTo(t, "in x, Abs", abs, p, []float64{nan, nan, nan})
		p = base()
		p.y[k] = nan
		want := []float64{8, 18, 28}
		want[k] = nan
		both(t, "in y", p, want...)
		want = []float64{15, 31, 47}
		want[k] = nan
		comesTo(t, "in y, Abs", abs, p, want)
	}
	p := base()
	p.a = nan
	both(t, "as a", p, nan, nan, nan)
}

func TestProductsOfAllKinds(t *testing.T) {
	few := []float64{0, nought, tiny, -0.1, 1, -1, 1 + two(-30), two(600), -top, inf, nan}
	for _, a := range few {
		for _, b := range few {
			for _, x := range odd() {
				p := problem{a, len(odd()), 1, odd(), []float64{x}, b, slices.Repeat([]float64{x}, len(odd()))}
				m, y := table(laying{inc: 1}, p.rows, 1, p.m...), vec(p.y...)
				errorIs(t, "Mul", gemv.Mul(a, m, vec(x), b, y), api.OK)
				is(t, "Mul of all kinds", y.D, p.mul())
				p = p.turned()
				m, y = table(laying{inc: 1}, 1, p.cols, p.m...), vec(p.y...)
				errorIs(t, "MulT", gemv.MulT(a, m, vec(x), b, y), api.OK)
				is(t, "MulT of all kinds", y.D, p.mulT())
			}
		}
	}
	for _, x := range odd() {
		for _, was := range odd() {
			p := problem{m: odd(), rows: len(odd()), cols: 1, x: []float64{x}, y: slices.Repeat([]float64{was}, len(odd()))}
			y := vec(p.y...)
			errorIs(t, "Abs", gemv.Abs(table(laying{inc: 1}, p.rows, 1, p.m...), vec(x), y), api.OK)
			is(t, "Abs of all kinds", y.D, p.abs())
		}
	}
}

func TestProductsOfManyNumbers(t *testing.T) {
	for rows := range 8 {
		for cols := range 8 {
			for _, wide := range []int{1, 4, 30, 300} {
				seed := uint64(rows*100 + cols*10 + wide)
				p := problem{rows: rows, cols: cols, m: anyFloats(seed, rows*cols, wide), x: anyFloats(seed+1, cols, wide), y: anyFloats(seed+2, rows, wide)}
				p.a, p.b = anyFloats(seed+3, 1, wide)[0], anyFloats(seed+4, 1, wide)[0]
				comesTo(t, "Mul of many", mul, p, p.mul())
				comesTo(t, "Abs of many", abs, p, p.abs())
				p = p.turned()
				comesTo(t, "MulT of many", mulT, p, p.mulT())
			}
		}
	}
}

// P7.1 and P7.2: m, x and y in one list

// lastOf and lastOfMat answer the last place of a vector's span, or of a matrix'; -1, if it has none.
func lastOf(v api.Vec) int {
	if v.N == 0 {
		return -1
	}
	return v.Off + (v.N-1)*v.Inc
}

func lastOfMat(m api.Mat) int {
	if m.Rows == 0 || m.Cols == 0 {
		return -1
	}
	return m.Off + (m.Cols-1)*m.Ld + m.Rows - 1
}

// crosses tells whether the spans from a to b and from c to d have a place in common.
func crosses(a, b, c, d int) bool {
	for p := a; p <= b; p++ {
		if c <= p && p <= d {
			return true
		}
	}
	return false
}

// numbersOf are the numbers of v.
func numbersOf(v api.Vec) []float64 {
	var l []float64
	for i := range v.N {
		l = append(l, v.D[v.Off+i*v.Inc])
	}
	return l
}

// vectors are all vectors of n numbers within d.
func vectors(d []float64, n int) []api.Vec {
	var all []api.Vec
	for off := range len(d) {
		for inc := 1; inc <= 3; inc++ {
			if v := (api.Vec{D: d, Off: off, N: n, Inc: inc}); view.Right(v) {
				all = append(all, v)
			}
		}
	}
	return all
}

// matrices are all matrices of up to 2 rows and columns within d, of three Ld.
func matrices(d []float64) []api.Mat {
	var all []api.Mat
	for off := range len(d) {
		for rows := range 3 {
			for cols := range 3 {
				for ld := 1; ld <= 3; ld++ {
					if m := (api.Mat{D: d, Off: off, Rows: rows, Cols: cols, Ld: ld}); view.Good(m) {
						all = append(all, m)
					}
				}
			}
		}
	}
	return all
}

func TestProductsWithinOneList(t *testing.T) {
	was := []float64{2, -3, 5, 7, -11, 13, 17}
	d := vec(was...).D
	for _, m := range matrices(d) {
		byRows := make([]float64, 0, 4)
		for i := range m.Rows {
			byRows = append(byRows, numbersOf(view.Row(m, i))...)
		}
		for _, x := range vectors(d, m.Cols) {
			for _, y := range vectors(d, m.Rows) {
				p := problem{3, m.Rows, m.Cols, byRows, numbersOf(x), -2, numbersOf(y)}
				within(t, "Mul", mul, p, m, x, y, p.mul())
				within(t, "Abs", abs, p, m, x, y, p.abs())
			}
		}
		for _, x := range vectors(d, m.Rows) {
			for _, y := range vectors(d, m.Cols) {
				p := problem{3, m.Rows, m.Cols, byRows, numbersOf(x), -2, numbersOf(y)}
				within(t, "MulT", mulT, p, m, x, y, p.mulT())
			}
		}
	}
	is(t, "as it was", d, was)
}

// within looks whether y, in one list with m and x, comes to want, or meets them and nothing changes; then the list is as it was.
func within(t *testing.T, what string, k kind, p problem, m api.Mat, x, y api.Vec, want []float64) {
	t.Helper()
	was := slices.Clone(y.D)
	e := k(p, m, x, y)
	if last := lastOf(y); crosses(y.Off, last, m.Off, lastOfMat(m)) || crosses(y.Off, last, x.Off, lastOf(x)) {
		errorIs(t, what+" where y meets", e, api.ErrApart)
		is(t, what+" where y meets", y.D, was)
		return
	}
	errorIs(t, what+" in one list", e, api.OK)
	after := slices.Clone(was)
	for i, x := range want {
		after[y.Off+i*y.Inc] = x
	}
	is(t, what+" in one list", y.D, after)
	copy(y.D, was)
}

func TestListsOfTwoLengthsAreOne(t *testing.T) {
	was := []float64{1, 2, 3, 4, 5, 6}
	d := vec(was...).D
	m, x := view.Dense(2, 2, 1, 2, 3, 4), vec(1, 1)
	y := api.Vec{D: d, Off: 1, N: 2, Inc: 1}
	errorIs(t, "y meets x", gemv.Mul(1, m, api.Vec{D: d[:2], N: 2, Inc: 1}, 0, y), api.ErrApart)
	errorIs(t, "y meets m", gemv.Mul(1, api.Mat{D: d[:5], Off: 1, Rows: 2, Cols: 2, Ld: 2}, x, 0, y), api.ErrApart)
	errorIs(t, "y in the shorter one", gemv.MulT(1, api.Mat{D: d, Off: 1, Rows: 2, Cols: 2, Ld: 2}, x, 0, api.Vec{D: d[:2], N: 2, Inc: 1}), api.ErrApart)
	is(t, "y meets", d, was)
	errorIs(t, "y behind x", gemv.Mul(1, m, api.Vec{D: d[:2], N: 2, Inc: 1}, 0, api.Vec{D: d, Off: 2, N: 2, Inc: 3}), api.OK)
	is(t, "y behind x", d, []float64{1, 2, 5, 4, 5, 11})
}

func TestRowsAndColumnsOfOneMatrix(t *testing.T) {
	m := view.Dense(3, 3, 1, 2, 3, 4, 5, 6, 7, 8, 9)
	errorIs(t, "the last column, of the first two", gemv.Mul(2, view.Part(m, 0, 0, 3, 2), view.Row(view.Part(m, 1, 0, 1, 2), 0), 1, view.Col(m, 2)), api.OK)
	is(t, "the last column", view.Numbers(m), []float64{1, 4, 7, 2, 5, 8, 31, 88, 145})
	errorIs(t, "the first column, of the others", gemv.Abs(view.Part(m, 0, 1, 3, 2), vec(1, 1), view.Col(m, 0)), api.OK)
	is(t, "the first column", view.Numbers(m), []float64{34, 97, 160, 2, 5, 8, 31, 88, 145})
	errorIs(t, "a row of it crosses its columns", gemv.MulT(1, view.Part(m, 0, 0, 3, 2), view.Col(m, 2), 0, view.Row(view.Part(m, 0, 1, 3, 2), 0)), api.ErrApart)
}

// P7.2: errors

func TestErrorsOfProducts(t *testing.T) {
	m, x, y := table(laying{inc: 1}, 2, 3, 1, 2, 3, 4, 5, 6), vec(1, 2, 3), vec(1, 2)
	all := func(what string, m api.Mat, x, y api.Vec, want api.Errno) {
		t.Helper()
		dm, dx, dy := slices.Clone(m.D), slices.Clone(x.D), slices.Clone(y.D)
		for _, b := range []float64{0, 1, 2, nan} {
			errorIs(t, what+", Mul", gemv.Mul(b, m, x, b, y), want)
			errorIs(t, what+", MulT", gemv.MulT(b, m, x, b, y), want)
			errorIs(t, what+", Abs", gemv.Abs(m, x, y), want)
		}
		is(t, what+", m", m.D, dm)
		is(t, what+", x", x.D, dx)
		is(t, what+", y", y.D, dy)
	}
	for _, w := range wrongMats() {
		all("m isn't right", w, x, y, api.ErrArg)
		all("m isn't right", w, y, x, api.ErrArg)
		all("m isn't right, square", w, y, vec(1, 2), api.ErrArg)
		all("m isn't right, no numbers", w, vec(), vec(), api.ErrArg)
	}
	for _, v := range wrongVecs() {
		for _, w := range []api.Vec{x, y, vec(), v} {
			all("x isn't right", m, v, w, api.ErrArg)
			all("y isn't right", m, w, v, api.ErrArg)
		}
	}
	for _, n := range [][2]int{{0, 0}, {3, 3}, {2, 2}, {3, 1}, {2, 1}, {4, 2}, {1, 3}, {6, 6}, {3, 0}, {0, 2}} {
		a, b := vec(make([]float64, n[0])...), vec(make([]float64, n[1])...)
		all("N that differ", m, a, b, api.ErrSize)
	}
}

func TestErrorsOfSizes(t *testing.T) {
	sizes := []float64{1, 2, 3, 4}
	for rows := range 4 {
		for cols := range 4 {
			m := table(laying{off: 1, inc: 2}, rows, cols, make([]float64, rows*cols)...)
			for in := range 5 {
				for out := range 5 {
					want, turned := api.ErrSize, api.ErrSize
					if in == cols && out == rows {
						want = api.OK
					}
					if in == rows && out == cols {
						turned = api.OK
					}
					y := laid(laying{2, 2, 1}, sizes[:out]...)
					errorIs(t, "Mul", gemv.Mul(1, m, vec(sizes[:in]...), 1, y), want)
					errorIs(t, "MulT", gemv.MulT(1, m, vec(sizes[:in]...), 1, y), turned)
					errorIs(t, "Abs", gemv.Abs(m, vec(sizes[:in]...), y), want)
					is(t, "sizes", y.D, laid(laying{2, 2, 1}, sizes[:out]...).D)
				}
			}
		}
	}
}

func TestWhichErrorComesFirst(t *testing.T) {
	was := []float64{1, 2, 3, 4, 5, 6, 7, 8}
	d := vec(was...).D
	v := func(off, n, inc int) api.Vec { return api.Vec{D: d, Off: off, N: n, Inc: inc} }
	m := func(off, rows, cols, ld int) api.Mat { return api.Mat{D: d, Off: off, Rows: rows, Cols: cols, Ld: ld} }
	for _, x := range []struct {
		what string
		m    api.Mat
		x, y api.Vec
		want api.Errno
	}{
		{"m isn't right, N that differ, y meets x", m(0, 3, 4, 2), v(0, 2, 1), v(0, 3, 1), api.ErrArg},
		{"x isn't right, N that differ, y meets m", m(0, 2, 2, 2), v(0, 9, 1), v(0, 3, 1), api.ErrArg},
		{"y isn't right, N that differ, y would meet m", m(0, 2, 2, 2), v(0, 3, 1), v(0, 9, 1), api.ErrArg},
		{"x' N differs, y meets m", m(0, 2, 2, 2), v(5, 3, 1), v(0, 2, 1), api.ErrSize},
		{"y's N differs, y meets m", m(0, 2, 2, 2), v(5, 2, 1), v(0, 3, 1), api.ErrSize},
		{"y's N differs, y meets x", m(0, 2, 2, 2), v(4, 2, 1), v(4, 3, 1), api.ErrSize},
		{"y's N differs, m has no numbers", m(0, 2, 0, 2), v(4, 0, 1), v(4, 3, 1), api.ErrSize},
		{"y meets m", m(0, 2, 2, 2), v(4, 2, 1), v(3, 2, 1), api.ErrApart},
		{"y meets x", m(0, 2, 2, 2), v(4, 2, 1), v(5, 2, 1), api.ErrApart},
		{"y is x", m(0, 2, 2, 2), v(4, 2, 1), v(4, 2, 1), api.ErrApart},
		{"y stands between m's columns", m(0, 2, 2, 6), vec(1, 2), v(2, 2, 1), api.ErrApart},
		{"y stands between x's numbers", m(0, 2, 2, 2), v(4, 2, 3), v(5, 2, 1), api.ErrApart},
		{"m stands between y's numbers", m(1, 2, 2, 2), vec(1, 2), v(0, 2, 7), api.ErrApart},
	} {
		errorIs(t, x.what+", Mul", gemv.Mul(2, x.m, x.x, 0, x.y), x.want)
		errorIs(t, x.what+", MulT", gemv.MulT(2, x.m, x.x, 0, x.y), x.want)
		errorIs(t, x.what+", Abs", gemv.Abs(x.m, x.x, x.y), x.want)
	}
	is(t, "beside errors", d, was)
}

// P1

func edges() []int { return []int{least, -1, 0, 1, 2, 3, 4, 1 << 31, 1 << 62, most - 1, most} }

func TestEveryCallEnds(t *testing.T) {
	for _, l := range [][]float64{nil, {1, 2, 3, 4}} {
		for _, off := range edges() {
			for _, n := range edges() {
				for _, inc := range edges() {
					anyVector(t, api.Vec{D: slices.Clone(l), Off: off, N: n, Inc: inc})
					for _, ld := range edges() {
						anyMatrix(t, api.Mat{D: slices.Clone(l), Off: off, Rows: n, Cols: inc, Ld: ld})
					}
				}
			}
		}
	}
}

// expected is what a product that needs so many numbers in and out answers of two lists of 2.
func expected(right bool, in, out int) api.Errno {
	switch {
	case !right:
		return api.ErrArg
	case in != 2 || out != 2:
		return api.ErrSize
	}
	return api.OK
}

// anyVector looks whether each call tells of v whether it is right.
func anyVector(t *testing.T, v api.Vec) {
	t.Helper()
	m := view.Dense(2, 2, 1, 2, 3, 4)
	want := expected(view.Right(v), v.N, 2)
	errorIs(t, "Mul of it", gemv.Mul(1, m, v, 1, vec(1, 2)), want)
	errorIs(t, "MulT of it", gemv.MulT(1, m, v, 1, vec(1, 2)), want)
	errorIs(t, "Abs of it", gemv.Abs(m, v, vec(1, 2)), want)
	errorIs(t, "Mul to it", gemv.Mul(1, m, vec(1, 2), 1, v), want)
	errorIs(t, "MulT to it", gemv.MulT(1, m, vec(1, 2), 1, v), want)
	errorIs(t, "Abs to it", gemv.Abs(m, vec(1, 2), v), want)
	if want == api.OK {
		want = api.ErrApart
	}
	errorIs(t, "Mul of and to it", gemv.Mul(1, m, v, 1, v), want)
}

// anyMatrix looks whether each call tells of m whether it is right.
func anyMatrix(t *testing.T, m api.Mat) {
	t.Helper()
	want := expected(view.Good(m), m.Cols, m.Rows)
	errorIs(t, "Mul", gemv.Mul(1, m, vec(1, 2), 1, vec(3, 4)), want)
	errorIs(t, "MulT", gemv.MulT(1, m, vec(1, 2), 1, vec(3, 4)), want)
	errorIs(t, "Abs", gemv.Abs(m, vec(1, 2), vec(3, 4)), want)
}
