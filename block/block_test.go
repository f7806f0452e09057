package block_test

import (
	"math"
	"math/big"
	"slices"
	"testing"

	"straightedge/api"
	"straightedge/block"
	"straightedge/gemm"
	"straightedge/num"
	"straightedge/view"
)

const (
	most  = math.MaxInt
	least = math.MinInt
	top   = math.MaxFloat64
	tiny  = math.SmallestNonzeroFloat64
	guard = -77.5 // what stands between the numbers, beside them and behind the list
)

var (
	inf    = math.Inf(1)
	nan    = math.NaN()
	nought = math.Copysign(0, -1)
)

// odd are numbers of all kinds.
func odd() []float64 {
	return []float64{
		0, nought, tiny, -3 * tiny, 0x1p-1022, -0x1p-600, 0.1, -0.5, 1, -1, 1 + 0x1p-52, 1 + 0x1p-30, -1 - 0x1p-29,
		3, -7, 1e16, 0x1p600, -0x1p970, top, -top, inf, -inf, nan,
	}
}

// laying is a way to lay a matrix' numbers in a list: with an Ld that is more by that than it must be.
type laying struct{ off, more, after int }

func layings() []laying {
	return []laying{{0, 0, 0}, {3, 0, 2}, {0, 1, 0}, {1, 2, 4}}
}

// laid is a matrix of the numbers l, row by row, with guards everywhere else, and behind the list's length.
func laid(w laying, rows, cols int, l ...float64) api.Mat {
	ld, n := max(1, rows)+w.more, 0
	if rows > 0 && cols > 0 {
		n = (cols-1)*ld + rows
	}
	d := slices.Repeat([]float64{guard}, w.off+n+w.after+5)
	m := api.Mat{D: d[:len(d)-5], Off: w.off, Rows: rows, Cols: cols, Ld: ld}
	for k, x := range l {
		m.D[w.off+k/cols+k%cols*ld] = x
	}
	return m
}

// mat is a matrix of the numbers l, row by row, and no more.
func mat(rows, cols int, l ...float64) api.Mat { return laid(laying{}, rows, cols, l...) }

// is looks whether d is want to the last bit, and its memory behind its length as it was.
func is(t *testing.T, what string, d, want []float64) {
	t.Helper()
	if !slices.EqualFunc(d, want, num.Same) {
		t.Errorf("%s: %v, not %v", what, d, want)
	}
	for _, x := range d[len(d):cap(d)] {
		if x != guard {
			t.Errorf("%s: written behind the list: %v", what, x)
		}
	}
}

func errorIs(t *testing.T, what string, got, want api.Errno) {
	t.Helper()
	if got != want {
		t.Errorf("%s: error %d, not %d", what, int(got), int(want))
	}
}

// wrong are matrices that aren't right, each by a thing of its own.
func wrong() []api.Mat {
	d := mat(1, 6, 1, 2, 3, 4, 5, 6).D
	return []api.Mat{
		{},
		{D: d},
		{D: d, Rows: 2, Cols: 2},
		{D: d, Rows: 2, Cols: 2, Ld: 1},
		{D: d, Rows: 2, Cols: 2, Ld: -2},
		{D: d, Rows: -1, Cols: 2, Ld: 2},
		{D: d, Rows: 2, Cols: -1, Ld: 2},
		{D: d, Off: -1, Rows: 2, Cols: 2, Ld: 2},
		{D: d, Off: 3, Rows: 2, Cols: 2, Ld: 2},
		{D: d, Rows: 2, Cols: 2, Ld: 5},
		{D: mat(1, 3, 1, 2, 3).D, Rows: 2, Cols: 2, Ld: 2},
		{D: d, Rows: 2, Cols: 5, Ld: 1 << 62},
		{D: d, Rows: most, Cols: most, Ld: most, Off: most},
		{D: d, Rows: least, Cols: least, Ld: least, Off: least},
		{D: d, Ld: 0, Rows: 0, Cols: 2},
		{Rows: 2, Cols: 2, Ld: 2},
	}
}

// sizes are sizes of blocks.
func sizes(rows, cols, sum int) block.Sizes { return block.Sizes{Rows: rows, Cols: cols, Sum: sum} }

// some are sizes of all kinds that are right.
func some() []block.Sizes {
	return []block.Sizes{
		sizes(1, 1, 1), sizes(9, 9, 9), sizes(1, 2, 3), sizes(3, 1, 2), sizes(2, 3, 1), sizes(2, 2, 2), sizes(4, 5, 3), sizes(1, 64, 64), sizes(64, 1, 64),
		sizes(64, 64, 1), sizes(7, 1, 1), sizes(most, most, most), sizes(1, most, 1<<62), sizes(4096, 4097, 4095), sizes(most-1, 2, most),
	}
}

// wrongSizes are sizes that aren't right.
func wrongSizes() []block.Sizes {
	return []block.Sizes{
		{}, sizes(0, 1, 1), sizes(1, 0, 1), sizes(1, 1, 0), sizes(-1, 1, 1), sizes(1, -1, 1), sizes(1, 1, -1), sizes(least, 1, 1), sizes(1, least, 1), sizes(1, 1, least),
		sizes(-1, -1, 1), sizes(most, 0, most), sizes(0, 0, most), sizes(most, most, -most), sizes(least, least, least),
	}
}

// anyFloats are n floats that look like chance and are the same each time: their Exps are about from -wide to wide.
func anyFloats(seed uint64, n, wide int) []float64 {
	l := make([]float64, n)
	for i := range l {
		seed = seed*6364136223846793005 + 1442695040888963407
		x := float64(int64(seed)) / (1 << 63)
		seed = seed*6364136223846793005 + 1442695040888963407
		l[i] = math.Ldexp(x, int(seed>>33)%(2*wide+1)-wide)
	}
	return l
}

// exactly is x, with room for all digits of a sum and a product of floats.
func exactly(x float64) *big.Float { return new(big.Float).SetPrec(5000).SetFloat64(x) }

// times and plus are what IEEE 754 makes of two numbers: exactly, then rounded once. Infinities and NaNs are left to the machine.
func times(x, y float64) float64 {
	if !num.Finite(x, y) {
		return x * y
	}
	p, _ := new(big.Float).SetPrec(5000).Mul(exactly(x), exactly(y)).Float64()
	return p
}

func plus(x, y float64) float64 {
	if x == 0 && y == 0 || !num.Finite(x, y) {
		return x + y // noughts by their signs, of which the exact sum knows another rule
	}
	s, _ := new(big.Float).SetPrec(5000).Add(exactly(x), exactly(y)).Float64()
	return s
}

// byRows are the numbers of m, row by row.
func byRows(m api.Mat) []float64 {
	l := make([]float64, 0, m.Rows*m.Cols)
	for i := range m.Rows {
		for j := range m.Cols {
			l = append(l, m.D[m.Off+i+j*m.Ld])
		}
	}
	return l
}

// problem is what a product is of: x of so many rows, y of so many columns, and what is summed over; row by row.
type problem struct {
	a               float64
	rows, sum, cols int
	x, y            []float64
	b               float64
	z               []float64
}

// made is a problem of that many numbers that look like chance.
func made(seed uint64, rows, sum, cols, wide int) problem {
	return problem{
		anyFloats(seed, 1, wide)[0], rows, sum, cols, anyFloats(seed+1, rows*sum, wide), anyFloats(seed+2, sum*cols, wide),
		anyFloats(seed+3, 1, wide)[0], anyFloats(seed+4, rows*cols, wide),
	}
}

// want is what the document's words make of p's z, without any blocks.
func (p problem) want() []float64 {
	l := make([]float64, len(p.z))
	for at := range l {
		if p.b != 0 {
			l[at] = times(p.b, p.z[at])
		}
		for k := range p.sum {
			l[at] = plus(l[at], times(times(p.a, p.y[k*p.cols+at%p.cols]), p.x[at/p.cols*p.sum+k]))
		}
	}
	return l
}

// comesTo looks whether z comes to want, whatever the sizes of blocks and however x, y and z are laid, and nothing else changes.
func comesTo(t *testing.T, what string, p problem, want ...float64) {
	t.Helper()
	for n, s := range some() {
		for k, wz := range layings() {
			wx, wy := layings()[(k+n)%4], layings()[(k+n/4)%4]
			x, y, z := laid(wx, p.rows, p.sum, p.x...), laid(wy, p.sum, p.cols, p.y...), laid(wz, p.rows, p.cols, p.z...)
			errorIs(t, what, block.Mul(s, p.a, x, y, p.b, z), api.OK)
			is(t, what, z.D, laid(wz, p.rows, p.cols, want...).D)
			is(t, what+", x", x.D, laid(wx, p.rows, p.sum, p.x...).D)
			is(t, what+", y", y.D, laid(wy, p.sum, p.cols, p.y...).D)
		}
	}
}

// dotIs looks at a row times a column, begun with 0.
func dotIs(t *testing.T, what string, x, y []float64, want float64) {
	t.Helper()
	comesTo(t, what, problem{1, 1, len(x), 1, x, y, 0, []float64{9}}, want)
}

// likeGemm looks whether z comes to just what gemm's Mul makes of it, by blocks of the sizes s.
func likeGemm(t *testing.T, what string, s block.Sizes, p problem) {
	t.Helper()
	w := laying{2, 1, 3}
	x, y, z, want := laid(w, p.rows, p.sum, p.x...), laid(w, p.sum, p.cols, p.y...), laid(w, p.rows, p.cols, p.z...), laid(w, p.rows, p.cols, p.z...)
	errorIs(t, what, gemm.Mul(p.a, x, y, p.b, want), api.OK)
	errorIs(t, what, block.Mul(s, p.a, x, y, p.b, z), api.OK)
	if !slices.EqualFunc(z.D, want.D, num.Same) {
		t.Errorf("%s: blocks of %v differ from gemm", what, s)
	}
}

// P13.1: Right

func TestRight(t *testing.T) {
	for _, rows := range edges() {
		for _, cols := range edges() {
			for _, sum := range edges() {
				want := rows > 0 && cols > 0 && sum > 0
				if sizes(rows, cols, sum).Right() != want {
					t.Errorf("Right of %d, %d, %d isn't %t", rows, cols, sum, want)
				}
			}
		}
	}
}

// P13.1: ordinary products

func TestMul(t *testing.T) {
	six := []float64{1, 2, 3, 4, 5, 6}
	comesTo(t, "a column", problem{1, 2, 2, 1, []float64{1, 2, 3, 4}, []float64{5, 6}, 0, []float64{8, 9}}, 17, 39)
	comesTo(t, "two, three, two", problem{2, 2, 3, 2, six, []float64{1, 0, 0, 1, 1, 1}, -1, []float64{1, 1, 1, 1}}, 7, 9, 19, 21)
	comesTo(t, "three, two, three", problem{1, 3, 2, 3, six, []float64{1, 0, -1, 2, 1, 0}, 1, []float64{10, 20, 30, 40, 50, 60, 70, 80, 90}}, 15, 22, 29, 51, 54, 57, 87, 86, 85)
	comesTo(t, "x and y aren't taken for one another", problem{1, 2, 2, 2, []float64{1, 1, 0, 1}, []float64{1, 0, 1, 1}, 0, make([]float64, 4)}, 2, 1, 1, 1)
	comesTo(t, "a row and a matrix", problem{-1, 1, 2, 3, []float64{1, -2}, six, 3, []float64{1, 2, 3}}, 10, 14, 18)
	comesTo(t, "a column and a row", problem{0.5, 2, 1, 3, []float64{2, -4}, []float64{1, 2, 3}, 1, six}, 2, 4, 6, 2, 1, 0)
	comesTo(t, "a row and a column", problem{2, 1, 3, 1, []float64{1, -2, 4}, []float64{3, 5, 0.25}, 1, []float64{100}}, 88)
	comesTo(t, "one number", problem{0.5, 1, 1, 1, []float64{3}, []float64{-4}, 10, []float64{2}}, 14)
}

func TestTheDocumentsSizes(t *testing.T) {
	p := made(13, 11, 10, 12, 3)
	want := p.want()
	for _, s := range []block.Sizes{sizes(1, 1, 1), sizes(9, 9, 9)} {
		z := mat(11, 12, p.z...)
		errorIs(t, "the document's", block.Mul(s, p.a, mat(11, 10, p.x...), mat(10, 12, p.y...), p.b, z), api.OK)
		is(t, "the document's", byRows(z), want)
	}
}

func TestEachSize(t *testing.T) {
	for _, shape := range [][3]int{{1, 1, 1}, {5, 4, 3}, {3, 5, 4}, {4, 3, 5}, {1, 6, 2}, {6, 1, 6}, {2, 6, 1}} {
		p := made(uint64(shape[0]*100+shape[1]*10+shape[2]), shape[0], shape[1], shape[2], 20)
		want := p.want()
		for rows := 1; rows <= 7; rows++ {
			for cols := 1; cols <= 7; cols++ {
				for sum := 1; sum <= 7; sum++ {
					z := mat(p.rows, p.cols, p.z...)
					errorIs(t, "each size", block.Mul(sizes(rows, cols, sum), p.a, mat(p.rows, p.sum, p.x...), mat(p.sum, p.cols, p.y...), p.b, z), api.OK)
					is(t, "each size", byRows(z), want)
				}
			}
		}
	}
}

func TestMulOfManyNumbers(t *testing.T) {
	for rows := range 5 {
		for sum := range 6 {
			for cols := range 5 {
				for _, wide := range []int{1, 30, 400} {
					p := made(uint64(rows*1000+sum*100+cols*10+wide), rows, sum, cols, wide)
					comesTo(t, "many", p, p.want()...)
				}
			}
		}
	}
}

func TestMulOfAllKinds(t *testing.T) {
	few := []float64{0, nought, tiny, -0.1, 1, -1, 0x1p600, -top, inf, nan}
	n := len(odd())
	twice := slices.Repeat(odd(), 2)
	var turned []float64 // of two rows: all numbers, and all from the end
	turned = append(turned, odd()...)
	slices.Reverse(turned)
	turned = append(odd(), turned...)
	for k, a := range few {
		for l, b := range few {
			for _, was := range few {
				likeGemm(t, "all kinds", some()[(k*len(few)+l)%len(some())], problem{a, n, 2, n, twice, turned, b, slices.Repeat([]float64{was}, n*n)})
			}
		}
	}
}

// P13.1: what z is begun with, just once

func TestBegun(t *testing.T) {
	was := []float64{5, -1, 0, nought, nan, inf, -inf, top}
	n := len(was)
	begun := func(what string, a, b float64, want ...float64) {
		t.Helper()
		comesTo(t, what+", one column", problem{a, n, 3, 1, slices.Repeat([]float64{1, 2, 3}, n), []float64{1, 1, 1}, b, was}, want...)
		comesTo(t, what+", two columns", problem{a, n / 2, 3, 2, slices.Repeat([]float64{1, 2, 3}, n/2), slices.Repeat([]float64{1}, 6), b, was}, want...)
		comesTo(t, what+", one row", problem{a, 1, 3, n, []float64{1, 2, 3}, slices.Repeat([]float64{1}, 3*n), b, was}, want...)
	}
	for _, b := range []float64{0, nought} {
		begun("with 0", 1, b, 6, 6, 6, 6, 6, 6, 6, 6)
		begun("with 0, and 0 added", 0, b, 0, 0, 0, 0, 0, 0, 0, 0)
		begun("with 0, and -0 added", nought, b, 0, 0, 0, 0, 0, 0, 0, 0)
	}
	begun("with 1", 1, 1, 11, 5, 6, 6, nan, inf, -inf, top)
	begun("with 1, and -0 added", nought, 1, 5, -1, 0, nought, nan, inf, -inf, top)
	begun("with -1", 1, -1, 1, 7, 6, 6, nan, -inf, inf, -top)
	begun("with 2", 1, 2, 16, 4, 6, 6, nan, inf, -inf, inf)
	begun("with 1/2", 1, 0.5, 8.5, 5.5, 6, 6, nan, inf, -inf, top/2)
	begun("with NaN", 1, nan, nan, nan, nan, nan, nan, nan, nan, nan)
	begun("with infinity", 1, inf, inf, -inf, nan, nan, nan, inf, -inf, inf)
}

func TestMulOfNoNumbers(t *testing.T) {
	was := []float64{5, -1, nought, inf}
	comesTo(t, "nothing summed over", problem{2, 2, 0, 2, nil, nil, 3, was}, 15, -3, nought, inf)
	comesTo(t, "nothing summed over, b 1", problem{nan, 2, 0, 2, nil, nil, 1, was}, was...)
	comesTo(t, "nothing summed over, b 0", problem{inf, 2, 0, 2, nil, nil, 0, []float64{nan, -1, nought, inf}}, 0, 0, 0, 0)
	comesTo(t, "nothing summed over, b -1", problem{0, 4, 0, 1, nil, nil, -1, was}, -5, 1, 0, -inf)
	comesTo(t, "no rows", problem{2, 0, 2, 3, nil, []float64{1, nan, 3, 4, 5, 6}, 3, nil})
	comesTo(t, "no columns", problem{2, 3, 2, 0, []float64{1, nan, 3, 4, 5, 6}, nil, 3, nil})
	comesTo(t, "no rows or columns", problem{2, 0, 2, 0, nil, nil, 3, nil})
	comesTo(t, "nothing", problem{2, 0, 0, 0, nil, nil, 3, nil})
}

func TestMulOfNoNumbersAnywhere(t *testing.T) {
	d := mat(1, 4, 1, 2, 3, 4).D
	lengths := []int{0, 1, 2, 4096, 4097, 1 << 31, most - 1, most}
	for _, s := range some() {
		for _, n := range lengths {
			for _, off := range lengths {
				none := func(rows, cols int) api.Mat {
					return api.Mat{D: d, Off: off, Rows: rows, Cols: cols, Ld: max(1, rows)}
				}
				for _, k := range lengths {
					errorIs(t, "no rows, no sum", block.Mul(s, 2, none(0, 0), none(0, n), 2, none(0, n)), api.OK)
					errorIs(t, "no columns, no sum", block.Mul(s, 2, none(n, 0), none(0, 0), 2, none(n, 0)), api.OK)
					errorIs(t, "no rows or columns", block.Mul(s, 2, none(0, k), none(k, 0), 2, none(0, 0)), api.OK)
				}
				errorIs(t, "no rows", block.Mul(s, 2, none(0, 2), mat(2, 2, 1, 2, 3, 4), 2, none(0, 2)), api.OK)
				errorIs(t, "no columns", block.Mul(s, 2, mat(2, 2, 1, 2, 3, 4), none(2, 0), 2, none(2, 0)), api.OK)
				z := laid(laying{off: 1}, 2, 2, 1, 2, 3, 4)
				errorIs(t, "no sum", block.Mul(s, 2, none(2, 0), none(0, 2), -1, z), api.OK)
				is(t, "no sum", z.D, laid(laying{off: 1}, 2, 2, -1, -2, -3, -4).D)
			}
		}
	}
	is(t, "as it was", d, []float64{1, 2, 3, 4})
}

func TestMulOfOneNumberFarApart(t *testing.T) {
	for _, s := range some() {
		x := api.Mat{D: mat(1, 3, 9, 9, 5).D, Off: 2, Rows: 1, Cols: 1, Ld: most}
		y := api.Mat{D: mat(1, 3, 9, 7, 9).D, Off: 1, Rows: 1, Cols: 1, Ld: 1 << 62}
		z := api.Mat{D: mat(1, 3, 3, 8, 8).D, Rows: 1, Cols: 1, Ld: most - 1}
		errorIs(t, "far apart", block.Mul(s, 2, x, y, -1, z), api.OK)
		is(t, "far apart", z.D, []float64{67, 8, 8})
	}
}

// P13.2: order and rounding across blocks

func TestOrderAcrossBlocks(t *testing.T) {
	ones := []float64{1, 1, 1, 1}
	dotIs(t, "from the left", []float64{1e16, 1, -1e16}, ones[:3], 0)
	dotIs(t, "turned about", []float64{1e16, -1e16, 1}, ones[:3], 1)
	dotIs(t, "with 1 ahead", []float64{1, 1, 1e16, -1e16}, ones, 2)
	dotIs(t, "y from above", ones[:3], []float64{1e16, 1, -1e16}, 0)
	dotIs(t, "upwards", []float64{0x1p-53, 0x1p-53, 1}, ones[:3], 1+0x1p-52)
	dotIs(t, "no block is summed by itself", []float64{1, 0x1p-53, 0x1p-53}, ones[:3], 1)
	dotIs(t, "nor two behind two", []float64{0.5, 0.5, 0x1p-53, 0x1p-53}, ones, 1)
	comesTo(t, "nor apart from what is there", problem{1, 1, 2, 1, []float64{0x1p-53, 0x1p-53}, ones[:2], 1, []float64{1}}, 1)
	comesTo(t, "from what is there on", problem{1, 1, 2, 1, []float64{top, top}, ones[:2], 1, []float64{-top}}, top)
	comesTo(t, "a with each product", problem{0.1, 1, 3, 1, ones[:3], ones[:3], 0, []float64{0}}, plus(plus(0.1, 0.1), 0.1))
	comesTo(t, "at each place of its own", problem{1, 2, 3, 2, []float64{1e16, 1, -1e16, 1, 1e16, -1e16}, []float64{1, -1, 1, 1, 1, 1}, 0, make([]float64, 4)}, 0, -2e16, 0, 0)
	comesTo(t, "a times y first", problem{0x1p600, 1, 2, 1, []float64{0x1p-600, 1}, []float64{0x1p600, 1}, 0, []float64{0}}, inf)
	dotIs(t, "doesn't come back", []float64{top, top, -top}, ones[:3], inf)
	dotIs(t, "a product, then the sum", []float64{1 + 0x1p-29, 1 + 0x1p-30}, []float64{-1, 1 + 0x1p-30}, 0)
}

func TestNoughtsAcrossBlocks(t *testing.T) {
	row := func(what string, z float64, want float64, x ...float64) {
		t.Helper()
		comesTo(t, what, problem{1, 1, len(x), 1, x, slices.Repeat([]float64{1}, len(x)), 1, []float64{z}}, want)
	}
	row("-0 stays", nought, nought, nought, nought, nought)
	row("-0 and 0", nought, 0, nought, 0, nought)
	row("cancels", nought, 0, 1, -1, nought)
	row("0 stays", 0, 0, nought, nought)
	row("infinities", 1, nan, inf, 1, -inf)
	row("NaN", 1, nan, 1, nan, 1)
}

func TestMulWithANaNAtEachPlace(t *testing.T) {
	base := func() problem {
		return problem{2, 3, 2, 3, []float64{1, 2, 3, 4, 5, 6}, []float64{0, 1, -1, 1, 0, -1}, 1, []float64{10, 20, 30, 40, 50, 60, 70, 80, 90}}
	}
	comes := []float64{14, 22, 24, 48, 56, 46, 82, 90, 68}
	comesTo(t, "without", base(), comes...)
	for k := range 6 {
		p, want := base(), slices.Clone(comes)
		p.x[k] = nan
		for j := range 3 {
			want[k/2*3+j] = nan
		}
		comesTo(t, "in x", p, want...)
		p, want = base(), slices.Clone(comes)
		p.y[k] = nan
		for i := range 3 {
			want[i*3+k%3] = nan
		}
		comesTo(t, "in y", p, want...)
	}
	p := base()
	p.a = nan
	comesTo(t, "as a", p, slices.Repeat([]float64{nan}, 9)...)
}

// P13.1: more places than pack cuts at once

func TestMulOfGreatMatrices(t *testing.T) {
	for _, n := range [][3]int{{64, 64, 64}, {65, 3, 65}, {3, 100, 2}, {200, 1, 70}} {
		p := made(uint64(n[0]), n[0], n[1], n[2], 4)
		for _, s := range []block.Sizes{sizes(1, 1, 1), sizes(16, 8, 32), sizes(63, 64, 65), sizes(7, 100, 1), sizes(most, most, most)} {
			likeGemm(t, "great", s, p)
		}
	}
}

func TestMoreThan4096Places(t *testing.T) {
	for _, n := range []int{4095, 4096, 4097, 5000, 8192, 8193, 10000} {
		for _, s := range []block.Sizes{sizes(1, 1, 1), sizes(3, 5, 7), sizes(4096, 4096, 4096), sizes(4097, 4097, 4097), sizes(5000, 64, 4095), sizes(most, most, most)} {
			likeGemm(t, "rows", s, made(1, n, 2, 2, 2))
			likeGemm(t, "sum", s, made(2, 2, n, 2, 2))
			likeGemm(t, "columns", s, made(3, 2, 2, n, 2))
			likeGemm(t, "rows, nothing summed over", s, made(4, n, 0, 1, 2))
			likeGemm(t, "columns, nothing summed over", s, made(5, 1, 0, n, 2))
		}
	}
}

// P13.1: x, y and z in one list

// lastOf answers the last place of m's span; -1, if it has none.
func lastOf(m api.Mat) int {
	if m.Rows == 0 || m.Cols == 0 {
		return -1
	}
	return m.Off + (m.Cols-1)*m.Ld + m.Rows - 1
}

// crosses tells whether the spans of a and b have a place in common.
func crosses(a, b api.Mat) bool {
	for p := a.Off; p <= lastOf(a); p++ {
		if b.Off <= p && p <= lastOf(b) {
			return true
		}
	}
	return false
}

// matrices are all matrices of up to 2 rows and columns within d, of three Ld.
func matrices(d []float64) []api.Mat {
	var all []api.Mat
	for off := range len(d) {
		for rows := range 3 {
			for cols := range 3 {
				for ld := 1; ld <= 3; ld++ {
					if m := (api.Mat{D: d, Off: off, Rows: rows, Cols: cols, Ld: ld}); view.Good(m) {
						all = append(all, m)
					}
				}
			}
		}
	}
	return all
}

func TestMulWithinOneList(t *testing.T) {
	was := []float64{2, -3, 5, 7, -11, 13, 17}
	d := mat(1, 7, was...).D
	few := []block.Sizes{sizes(1, 1, 1), sizes(2, 1, 1), sizes(1, 2, 2), sizes(9, 9, 9)}
	k := 0
	for _, x := range matrices(d) {
		for _, y := range matrices(d) {
			if x.Cols != y.Rows {
				continue
			}
			for _, z := range matrices(d) {
				if z.Rows == x.Rows && z.Cols == y.Cols {
					within(t, few[k%len(few)], x, y, z)
					copy(d, was)
					k++
				}
			}
		}
	}
}

// within looks whether z, in one list with x and y, comes to what it must, or meets them and nothing changes.
func within(t *testing.T, s block.Sizes, x, y, z api.Mat) {
	t.Helper()
	was := slices.Clone(z.D)
	p := problem{3, x.Rows, x.Cols, y.Cols, byRows(x), byRows(y), -2, byRows(z)}
	e := block.Mul(s, p.a, x, y, p.b, z)
	if crosses(z, x) || crosses(z, y) {
		errorIs(t, "z meets", e, api.ErrApart)
		is(t, "z meets", z.D, was)
		return
	}
	errorIs(t, "in one list", e, api.OK)
	for k, w := range p.want() {
		was[z.Off+k/z.Cols+k%z.Cols*z.Ld] = w
	}
	is(t, "in one list", z.D, was)
}

func TestXAndYThatMeet(t *testing.T) {
	for _, s := range some() {
		x, z := mat(2, 2, 1, 2, 3, 4), mat(2, 2)
		errorIs(t, "x is y", block.Mul(s, 1, x, x, 0, z), api.OK)
		is(t, "x is y", byRows(z), []float64{7, 10, 15, 22})
		y := api.Mat{D: x.D, Off: 1, Rows: 2, Cols: 1, Ld: 2}
		errorIs(t, "y within x", block.Mul(s, 1, x, y, -1, view.Part(z, 0, 1, 2, 1)), api.OK)
		is(t, "y within x", byRows(z), []float64{7, -3, 15, -5})
		is(t, "x", x.D, []float64{1, 3, 2, 4})
	}
}

func TestListsOfTwoLengthsAreOne(t *testing.T) {
	was := []float64{1, 2, 3, 4, 5, 6}
	one := view.Dense(2, 2, 1, 0, 0, 1)
	for _, s := range some() {
		d := mat(1, 6, was...).D
		x, z := api.Mat{D: d[:4], Rows: 2, Cols: 2, Ld: 2}, api.Mat{D: d, Off: 2, Rows: 2, Cols: 2, Ld: 2}
		errorIs(t, "z meets x", block.Mul(s, 1, x, one, 0, z), api.ErrApart)
		errorIs(t, "z meets y", block.Mul(s, 1, one, x, 0, z), api.ErrApart)
		errorIs(t, "z in the shorter one meets x", block.Mul(s, 1, z, one, 0, x), api.ErrApart)
		is(t, "z meets", d, was)
		x = api.Mat{D: d[:2], Rows: 2, Cols: 1, Ld: 2}
		errorIs(t, "z behind x", block.Mul(s, 1, x, view.Dense(1, 2, 1, -1), 0, z), api.OK)
		is(t, "z behind x", d, []float64{1, 2, 1, 2, -1, -2})
	}
}

func TestPartsOfOneMatrix(t *testing.T) {
	for _, s := range some() {
		m := view.Dense(2, 4, 1, 2, 9, 9, 3, 4, 9, 9)
		errorIs(t, "columns of it", block.Mul(s, 1, view.Part(m, 0, 0, 2, 2), view.Part(m, 0, 0, 2, 2), 0, view.Part(m, 0, 2, 2, 2)), api.OK)
		is(t, "columns of it", byRows(m), []float64{1, 2, 7, 10, 3, 4, 15, 22})
		errorIs(t, "rows of it cross, though no block of one number does", block.Mul(s, 1, view.Part(m, 0, 0, 1, 1), view.Part(m, 0, 0, 1, 4), 0, view.Part(m, 1, 0, 1, 4)), api.ErrApart)
		is(t, "rows of it cross", byRows(m), []float64{1, 2, 7, 10, 3, 4, 15, 22})
	}
}

// P13.1: errors

// unchanged looks whether Mul answers that error, and changes nothing.
func unchanged(t *testing.T, what string, s block.Sizes, x, y, z api.Mat, want api.Errno) {
	t.Helper()
	dx, dy, dz := slices.Clone(x.D), slices.Clone(y.D), slices.Clone(z.D)
	for _, b := range []float64{0, 1, 2, nan} {
		errorIs(t, what, block.Mul(s, b, x, y, b, z), want)
	}
	is(t, what+", x", x.D, dx)
	is(t, what+", y", y.D, dy)
	is(t, what+", z", z.D, dz)
}

func TestSizesThatArentRight(t *testing.T) {
	m := mat(2, 2, 1, 2, 3, 4)
	for _, s := range wrongSizes() {
		unchanged(t, "all else is right", s, m, mat(2, 2, 5, 6, 7, 8), mat(2, 2, 9, 8, 7, 6), api.ErrArg)
		unchanged(t, "sizes of matrices that differ", s, m, mat(1, 2, 5, 6), mat(2, 2, 9, 8, 7, 6), api.ErrArg)
		unchanged(t, "z is x", s, m, mat(2, 2, 5, 6, 7, 8), m, api.ErrArg)
		unchanged(t, "nothing summed over", s, mat(2, 0), mat(0, 2), m, api.ErrArg)
		unchanged(t, "nothing", s, mat(0, 0), mat(0, 0), mat(0, 0), api.ErrArg)
		for _, w := range wrong() {
			unchanged(t, "nothing is right", s, w, w, w, api.ErrArg)
		}
	}
}

func TestErrorsOfMul(t *testing.T) {
	right := []api.Mat{mat(2, 2, 1, 2, 3, 4), mat(2, 3, 1, 2, 3, 4, 5, 6), mat(0, 0), mat(0, 2), mat(1, 1, 5)}
	for _, s := range []block.Sizes{sizes(1, 1, 1), sizes(2, 3, 4), sizes(most, most, most)} {
		for _, w := range wrong() {
			for _, a := range right {
				for _, b := range append(right, w) {
					unchanged(t, "x isn't right", s, w, a, b, api.ErrArg)
					unchanged(t, "y isn't right", s, a, w, b, api.ErrArg)
					unchanged(t, "z isn't right", s, a, b, w, api.ErrArg)
				}
			}
			unchanged(t, "none is right", s, w, w, w, api.ErrArg)
		}
	}
}

func TestErrorsOfSizes(t *testing.T) {
	l := []float64{1, 2, 3, 4, 5, 6, 7, 8, 9}
	m := func(rows, cols int) api.Mat { return laid(laying{1, 1, 2}, rows, cols, l[:rows*cols]...) }
	for k := range 4 * 4 * 4 * 4 * 4 * 4 {
		x, y, z := m(k%4, k/4%4), m(k/16%4, k/64%4), m(k/256%4, k/1024)
		was, want := slices.Clone(z.D), api.OK
		if x.Cols != y.Rows || x.Rows != z.Rows || y.Cols != z.Cols {
			want = api.ErrSize
		}
		errorIs(t, "sizes", block.Mul(some()[k%len(some())], 0, x, y, 1, z), want)
		is(t, "sizes", z.D, was) // of finite numbers, 0 times the product adds nothing
	}
}

func TestWhichErrorComesFirst(t *testing.T) {
	was := []float64{1, 2, 3, 4, 5, 6, 7, 8}
	d := mat(1, 8, was...).D
	m := func(off, rows, cols, ld int) api.Mat { return api.Mat{D: d, Off: off, Rows: rows, Cols: cols, Ld: ld} }
	apart := view.Dense(2, 2, 1, 2, 3, 4)
	for _, c := range []struct {
		what    string
		x, y, z api.Mat
		want    api.Errno
	}{
		{"x isn't right, sizes that differ, z meets y", m(0, 3, 4, 2), m(0, 2, 2, 2), m(0, 3, 2, 3), api.ErrArg},
		{"y isn't right, sizes that differ, z meets x", m(0, 2, 2, 2), m(0, 3, 4, 2), m(0, 2, 3, 2), api.ErrArg},
		{"z isn't right, sizes that differ, x is y", m(0, 2, 2, 2), m(0, 2, 2, 2), m(0, 3, 4, 2), api.ErrArg},
		{"x' Cols differ, z meets x", m(0, 2, 1, 2), m(4, 2, 2, 2), m(0, 2, 2, 2), api.ErrSize},
		{"z's Rows differ, z meets x", m(0, 2, 2, 2), m(4, 2, 2, 2), m(0, 1, 2, 2), api.ErrSize},
		{"z's Cols differ, z meets y", m(0, 2, 2, 2), m(4, 2, 2, 2), m(4, 2, 1, 2), api.ErrSize},
		{"z's Cols differ, nothing is summed over", m(0, 2, 0, 2), m(0, 0, 2, 2), m(0, 2, 1, 2), api.ErrSize},
		{"z has no rows, and x' Cols differ", m(0, 0, 2, 2), m(0, 1, 2, 2), m(0, 0, 2, 2), api.ErrSize},
		{"z has no columns, and x' Cols differ", m(0, 2, 2, 2), m(0, 1, 0, 2), m(4, 2, 0, 2), api.ErrSize},
		{"z meets x", m(0, 2, 2, 2), apart, m(3, 2, 2, 2), api.ErrApart},
		{"z meets y", apart, m(0, 2, 2, 2), m(3, 2, 2, 2), api.ErrApart},
		{"z is x", m(0, 2, 2, 2), apart, m(0, 2, 2, 2), api.ErrApart},
		{"z is y", apart, m(4, 2, 2, 2), m(4, 2, 2, 2), api.ErrApart},
		{"all are one", m(1, 2, 2, 2), m(1, 2, 2, 2), m(1, 2, 2, 2), api.ErrApart},
		{"z stands between x' columns", m(0, 1, 2, 6), view.Dense(2, 1, 1, 2), m(3, 1, 1, 1), api.ErrApart},
		{"z stands between y's columns", view.Dense(1, 1, 2), m(0, 1, 2, 7), m(2, 1, 2, 2), api.ErrApart},
		{"x stands between z's columns", m(3, 1, 1, 1), view.Dense(1, 2, 1, 2), m(0, 1, 2, 7), api.ErrApart},
		{"y stands between z's columns", view.Dense(1, 1, 2), m(2, 1, 2, 2), m(0, 1, 2, 7), api.ErrApart},
	} {
		for _, s := range some() {
			unchanged(t, c.what, s, c.x, c.y, c.z, c.want)
		}
		for _, s := range wrongSizes() {
			unchanged(t, c.what+", sizes of blocks that aren't right", s, c.x, c.y, c.z, api.ErrArg)
		}
	}
	is(t, "beside errors", d, was)
}

// R6

func TestOneAnswer(t *testing.T) {
	p := made(7, 6, 7, 5, 100)
	for range 3 {
		z := mat(6, 5, p.z...)
		errorIs(t, "again", block.Mul(sizes(2, 3, 4), p.a, mat(6, 7, p.x...), mat(7, 5, p.y...), p.b, z), api.OK)
		is(t, "again", byRows(z), p.want())
	}
}

// P1

func edges() []int { return []int{least, -1, 0, 1, 2, 3, 4097, 1 << 31, 1 << 62, most - 1, most} }

func TestEveryCallEnds(t *testing.T) {
	k := 0
	for _, l := range [][]float64{nil, {1, 2, 3, 4}} {
		for _, off := range edges() {
			for _, rows := range edges() {
				for _, cols := range edges() {
					for _, ld := range edges() {
						n := len(edges())
						anySizes(t, sizes(edges()[k%n], edges()[k/n%n], edges()[k/n/n%n]), api.Mat{D: slices.Clone(l), Off: off, Rows: rows, Cols: cols, Ld: ld})
						anySizes(t, some()[k%len(some())], api.Mat{D: slices.Clone(l), Off: off, Rows: rows, Cols: cols, Ld: ld})
						k++
					}
				}
			}
		}
	}
}

// anySizes looks whether Mul tells of s and m whether they are right, and of the size that it asks for.
func anySizes(t *testing.T, s block.Sizes, m api.Mat) {
	t.Helper()
	two := func() api.Mat { return view.Dense(2, 2, 1, 2, 3, 4) }
	expected := func(fits bool) api.Errno {
		switch {
		case !s.Right() || !view.Good(m):
			return api.ErrArg
		case !fits:
			return api.ErrSize
		}
		return api.OK
	}
	square := m.Rows == 2 && m.Cols == 2
	errorIs(t, "Mul of it", block.Mul(s, 1, m, two(), 1, two()), expected(square))
	errorIs(t, "Mul by it", block.Mul(s, 1, two(), m, 1, two()), expected(square))
	errorIs(t, "Mul to it", block.Mul(s, 0, two(), two(), 1, m), expected(square))
	want := expected(m.Rows == m.Cols)
	if want == api.OK && m.Rows > 0 {
		want = api.ErrApart
	}
	errorIs(t, "Mul of it, by it, to it", block.Mul(s, 1, m, m, 1, m), want)
}
