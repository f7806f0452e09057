package trsm_test

import (
	"math"
	"math/big"
	"slices"
	"testing"

	"straightedge/api"
	"straightedge/num"
	"straightedge/trsm"
	"straightedge/trsv"
	"straightedge/view"
)

const (
	most  = math.MaxInt
	least = math.MinInt
	top   = math.MaxFloat64
	tiny  = math.SmallestNonzeroFloat64
	guard = -77.5 // what stands between the numbers, beside them and behind the list
)

// The kinds, as the document counts them.
const (
	lower = 1
	upper = 2
)

var (
	inf    = math.Inf(1)
	nan    = math.NaN()
	nought = math.Copysign(0, -1)
)

func kinds() []int { return []int{lower, upper} }

func noKinds() []int {
	return []int{0, 3, 4, 5, -1, -2, 256, 257, 1<<16 + 1, 1<<32 + 1, 1<<32 + 2, most, least, least + 1, least + 2}
}

// names tells a kind in the tests' messages.
func names(kind int) string { return []string{"", "lower", "upper"}[kind] }

// reads tells whether a kind reads m's number (i, j).
func reads(kind, i, j int) bool { return kind == upper && i <= j || kind == lower && i > j }

// sizes are sizes of blocks that are right.
func sizes() []int { return []int{1, 2, 3, 4, 5, 7, 8, 64, 4096, 4097, 1 << 50, most - 1, most} }

// wrongSizes are sizes that aren't right.
func wrongSizes() []int { return []int{0, -1, -2, -64, least, least + 1} }

// odd are numbers of all kinds.
func odd() []float64 {
	return []float64{
		0, nought, tiny, -3 * tiny, 0x1p-1022, -0x1p-600, 0.1, -0.5, 1, -1, 1 + 0x1p-52, 1 + 0x1p-30, -1 - 0x1p-29,
		3, -7, 1e16, 0x1p600, -0x1p970, top, -top, inf, -inf, nan,
	}
}

// laying is a way to lay a matrix' numbers in a list: with an Ld that is more by that than it must be.
type laying struct{ off, more, after int }

func layings() []laying {
	return []laying{{0, 0, 0}, {3, 0, 2}, {0, 1, 0}, {1, 2, 4}}
}

// laid is a matrix of the numbers l, row by row, with guards everywhere else, and behind the list's length.
func laid(w laying, rows, cols int, l ...float64) api.Mat {
	ld, n := max(1, rows)+w.more, 0
	if rows > 0 && cols > 0 {
		n = (cols-1)*ld + rows
	}
	d := slices.Repeat([]float64{guard}, w.off+n+w.after+5)
	m := api.Mat{D: d[:len(d)-5], Off: w.off, Rows: rows, Cols: cols, Ld: ld}
	for k, x := range l {
		m.D[w.off+k/cols+k%cols*ld] = x
	}
	return m
}

// mat is a matrix of the numbers l, row by row, and no more.
func mat(rows, cols int, l ...float64) api.Mat { return laid(laying{}, rows, cols, l...) }

// is looks whether d is want to the last bit, and its memory behind its length as it was.
func is(t *testing.T, what string, d, want []float64) {
	t.Helper()
	if !slices.EqualFunc(d, want, num.Same) {
		t.Errorf("%s: %v, not %v", what, d, want)
	}
	for _, x := range d[len(d):cap(d)] {
		if x != guard {
			t.Errorf("%s: written behind the list: %v", what, x)
		}
	}
}

func errorIs(t *testing.T, what string, got, want api.Errno) {
	t.Helper()
	if got != want {
		t.Errorf("%s: error %d, not %d", what, int(got), int(want))
	}
}

// wrong are matrices that aren't right, each by a thing of its own.
func wrong() []api.Mat {
	d := mat(1, 6, 1, 2, 3, 4, 5, 6).D
	return []api.Mat{
		{},
		{D: d},
		{D: d, Rows: 2, Cols: 2},
		{D: d, Rows: 2, Cols: 2, Ld: 1},
		{D: d, Rows: 2, Cols: 2, Ld: -2},
		{D: d, Rows: -1, Cols: 2, Ld: 2},
		{D: d, Rows: 2, Cols: -1, Ld: 2},
		{D: d, Rows: -1, Cols: -1, Ld: 2},
		{D: d, Off: -1, Rows: 2, Cols: 2, Ld: 2},
		{D: d, Off: 3, Rows: 2, Cols: 2, Ld: 2},
		{D: d, Rows: 2, Cols: 2, Ld: 5},
		{D: mat(1, 3, 1, 2, 3).D, Rows: 2, Cols: 2, Ld: 2},
		{D: d, Rows: 2, Cols: 5, Ld: 1 << 62},
		{D: d, Rows: most, Cols: most, Ld: most, Off: most},
		{D: d, Rows: least, Cols: least, Ld: least, Off: least},
		{D: d, Ld: 0, Rows: 0, Cols: 2},
		{D: d, Off: -1, Ld: 1},
		{Rows: 2, Cols: 2, Ld: 2},
	}
}

// anyFloats are n floats that look like chance and are the same each time: their Exps are about from -wide to wide.
func anyFloats(seed uint64, n, wide int) []float64 {
	l := make([]float64, n)
	for i := range l {
		seed = seed*6364136223846793005 + 1442695040888963407
		x := float64(int64(seed)) / (1 << 63)
		seed = seed*6364136223846793005 + 1442695040888963407
		l[i] = math.Ldexp(x, int(seed>>33)%(2*wide+1)-wide)
	}
	return l
}

// exactly is x, with room for all digits of a sum and a product of floats, and enough of a quotient.
func exactly(x float64) *big.Float { return room().SetFloat64(x) }

func room() *big.Float { return new(big.Float).SetPrec(5000) }

// times, less and over are what IEEE 754 makes of two numbers: exactly, then rounded once. Infinities, NaNs, and what is said of noughts' signs are left to the machine.
func times(x, y float64) float64 {
	if !num.Finite(x, y) {
		return x * y
	}
	p, _ := room().Mul(exactly(x), exactly(y)).Float64()
	return p
}

func less(x, y float64) float64 {
	if x == 0 && y == 0 || !num.Finite(x, y) {
		return x - y
	}
	d, _ := room().Sub(exactly(x), exactly(y)).Float64()
	return d
}

func over(x, y float64) float64 {
	if x == 0 || y == 0 || !num.Finite(x, y) {
		return x / y
	}
	q, _ := room().Quo(exactly(x), exactly(y)).Float64()
	return q
}

// byRows are the numbers of m, row by row.
func byRows(m api.Mat) []float64 {
	l := make([]float64, 0, m.Rows*m.Cols)
	for i := range m.Rows {
		for j := range m.Cols {
			l = append(l, m.D[m.Off+i+j*m.Ld])
		}
	}
	return l
}

// system is a matrix of n rows and columns, and right sides, one a column; both row by row.
type system struct {
	kind, n, cols int
	m, x          []float64
}

// made is a system of numbers that look like chance.
func made(seed uint64, kind, n, cols, wide int) system {
	return system{kind, n, cols, anyFloats(seed, n*n, wide), anyFloats(seed+1, n*cols, wide)}
}

// solved is what chapter 9's words make of each column of s, without any blocks.
func (s system) solved() []float64 {
	x, n := slices.Clone(s.x), s.n
	for c := range s.cols {
		at := func(i int) *float64 { return &x[i*s.cols+c] }
		switch s.kind {
		case lower:
			for j := 0; j < n; j++ {
				for i := j + 1; i < n; i++ {
					*at(i) = less(*at(i), times(s.m[i*n+j], *at(j)))
				}
			}
		case upper:
			for j := n - 1; j >= 0; j-- {
				*at(j) = over(*at(j), s.m[j*n+j])
				for i := 0; i <= j-1; i++ {
					*at(i) = less(*at(i), times(s.m[i*n+j], *at(j)))
				}
			}
		}
	}
	return x
}

// spoilt is s with by at each place of m that its kind doesn't read.
func (s system) spoilt(by float64) system {
	m := slices.Clone(s.m)
	for i := range s.n {
		for j := range s.n {
			if !reads(s.kind, i, j) {
				m[i*s.n+j] = by
			}
		}
	}
	return system{s.kind, s.n, s.cols, m, s.x}
}

// comesTo looks whether x comes to want, whatever the size of blocks, however m and x are laid and whatever stands where the kind doesn't read, and nothing else changes.
func comesTo(t *testing.T, what string, s system, want ...float64) {
	t.Helper()
	what = names(s.kind) + ", " + what
	for k, s := range []system{s, s.spoilt(0), s.spoilt(nought), s.spoilt(-3), s.spoilt(inf), s.spoilt(nan)} {
		for l, size := range sizes() {
			for _, wm := range layings() {
				wx := layings()[(k+l)%4]
				m, x := laid(wm, s.n, s.n, s.m...), laid(wx, s.n, s.cols, s.x...)
				errorIs(t, what, trsm.Solve(s.kind, size, m, x), api.OK)
				is(t, what, x.D, laid(wx, s.n, s.cols, want...).D)
				is(t, what+", m", m.D, laid(wm, s.n, s.n, s.m...).D)
			}
		}
	}
}

// eachColumn looks whether the column x comes to want: alone, and beside columns of other numbers.
func eachColumn(t *testing.T, what string, kind int, m, x, want []float64) {
	t.Helper()
	n := len(x)
	comesTo(t, what, system{kind, n, 1, m, x}, want...)
	first := system{kind, n, 1, m, slices.Repeat([]float64{1}, n)}
	last := system{kind, n, 1, m, slices.Repeat([]float64{nan}, n)}
	comesTo(t, what+", amid others", system{kind, n, 3, m, beside(first.x, x, last.x)}, beside(first.solved(), want, last.solved())...)
}

// beside are columns, row by row.
func beside(columns ...[]float64) []float64 {
	var l []float64
	for i := range columns[0] {
		for _, c := range columns {
			l = append(l, c[i])
		}
	}
	return l
}

// likeTrsv looks whether x comes to just what trsv's Solve makes of each column, in blocks of that size.
func likeTrsv(t *testing.T, what string, size int, s system) {
	t.Helper()
	w := laying{2, 1, 3}
	m, x, want := laid(w, s.n, s.n, s.m...), laid(w, s.n, s.cols, s.x...), laid(w, s.n, s.cols, s.x...)
	for j := range s.cols {
		errorIs(t, what, trsv.Solve(s.kind, m, view.Col(want, j)), api.OK)
	}
	errorIs(t, what, trsm.Solve(s.kind, size, m, x), api.OK)
	if !slices.EqualFunc(x.D, want.D, num.Same) {
		t.Errorf("%s, %s: blocks of %d differ from trsv", names(s.kind), what, size)
	}
}

// P14.1: ordinary systems

func TestSolve(t *testing.T) {
	comesTo(t, "one column", system{upper, 2, 1, []float64{2, 1, 0, 4}, []float64{4, 8}}, 1, 2)
	comesTo(t, "one column", system{lower, 2, 1, []float64{1, 0, 3, 1}, []float64{2, 5}}, 2, -1)
	m := []float64{2, 1, 4, 3, 4, 2, 1, 2, 8}
	comesTo(t, "three", system{lower, 3, 2, m, []float64{1, 2, 5, 5, 8, 3}}, 1, 2, 2, -1, 3, 3)
	comesTo(t, "three", system{upper, 3, 2, m, []float64{16, 0, 14, 6, 24, -8}}, 1, 1, 2, 2, 3, -1)
	m = []float64{
		4, 1, -2, 3,
		2, -8, 5, 1,
		-1, 3, 0.5, 7,
		6, -2, 4, -16,
	}
	comesTo(t, "four", system{lower, 4, 2, m, []float64{3, 1, 4, 2, -12, 0, 26, 6}}, 3, 1, -2, 0, -3, 1, 16, -4)
	comesTo(t, "four", system{upper, 4, 2, m, []float64{-13, 12, 14, -8, 16, 0, -32, 0}}, -3, 2.75, 1, 1, 4, 0, 2, nought)
}

func TestColumnsThatAreAlike(t *testing.T) {
	for _, kind := range kinds() {
		s := made(3, kind, 6, 1, 3)
		want := s.solved()
		comesTo(t, "two columns that are alike", system{kind, 6, 2, s.m, beside(s.x, s.x)}, beside(want, want)...)
	}
}

func TestEachSize(t *testing.T) {
	for _, kind := range kinds() {
		for n := range 10 {
			s := made(uint64(n), kind, n, 2, 20)
			want := s.solved()
			for size := 1; size <= n+2; size++ {
				x := mat(n, 2, s.x...)
				errorIs(t, "each size", trsm.Solve(kind, size, mat(n, n, s.m...), x), api.OK)
				is(t, "each size, "+names(kind), byRows(x), want)
			}
		}
	}
}

func TestSystemsOfManyNumbers(t *testing.T) {
	for _, kind := range kinds() {
		for n := range 8 {
			for cols := range 4 {
				for _, wide := range []int{1, 30, 300} {
					s := made(uint64(n*1000+cols*100+wide), kind, n, cols, wide)
					comesTo(t, "many", s, s.solved()...)
				}
			}
		}
	}
}

func TestGreatSystems(t *testing.T) {
	for _, kind := range kinds() {
		for _, n := range []int{16, 63, 64, 65, 130} {
			s := made(uint64(n), kind, n, 3, 2)
			for _, size := range []int{1, 2, 7, 16, 31, 32, 33, 63, 64, 65, 129, 130, most} {
				likeTrsv(t, "great", size, s)
			}
		}
		for _, size := range []int{1, 2, most} {
			likeTrsv(t, "more columns than rows", size, made(5, kind, 3, 200, 40))
		}
	}
}

// TestMoreThan4096Rows: of more rows pack cuts none.
func TestMoreThan4096Rows(t *testing.T) {
	const n = 4098
	m, x, want := api.Mat{D: make([]float64, n*n), Rows: n, Cols: n, Ld: n}, make([]float64, n), make([]float64, n)
	set := func(i, j int, x float64) { m.D[i+j*n] = x }
	for i := range n {
		set(i, i, 2)
		x[i] = float64(i%5) - 1.5
	}
	for i := 1; i < n; i++ {
		set(i, i-1, 0.5)
		set(i-1, i, -0.75)
	}
	for _, k := range []int{1, 7, 4095, 4096} { // across the place where the blocks are cut
		set(n-1, k, 0.1)
		set(k, n-1, 0.3)
	}
	for _, kind := range kinds() {
		copy(want, x)
		errorIs(t, "one by one", trsv.Solve(kind, m, api.Vec{D: want, N: n, Inc: 1}), api.OK)
		for _, size := range []int{64, 4095, 5000} {
			d := slices.Clone(x)
			errorIs(t, "more than 4096", trsm.Solve(kind, size, m, api.Mat{D: d, Rows: n, Cols: 1, Ld: n}), api.OK)
			if !slices.EqualFunc(d, want, num.Same) {
				t.Errorf("%s: blocks of %d of %d rows differ from trsv", names(kind), size, n)
			}
		}
	}
}

func TestSolveOfOneNumber(t *testing.T) {
	for _, x := range odd() {
		comesTo(t, "by 1", system{lower, 1, 2, []float64{7}, []float64{x, 3}}, x, 3)
		for _, d := range odd() {
			if d != 0 {
				comesTo(t, "by a number", system{upper, 1, 2, []float64{d}, []float64{x, 3}}, over(x, d), over(3, d))
			}
		}
	}
}

func TestOneNumberFarApart(t *testing.T) {
	for _, kind := range kinds() {
		for _, size := range sizes() {
			m := api.Mat{D: mat(1, 3, 6, 6, 4).D, Off: 2, Rows: 1, Cols: 1, Ld: most}
			x := api.Mat{D: mat(1, 3, 9, 5, 9).D, Off: 1, Rows: 1, Cols: 1, Ld: 1 << 62}
			errorIs(t, names(kind), trsm.Solve(kind, size, m, x), api.OK)
			is(t, names(kind), x.D, []float64{9, []float64{lower: 5, upper: 1.25}[kind], 9})
		}
	}
}

// P14.1: no numbers

func TestSolveOfNoNumbers(t *testing.T) {
	d := mat(1, 3, 1, 2, 3).D
	for _, kind := range kinds() {
		for _, size := range sizes() {
			for _, m := range []api.Mat{{Ld: 1}, {Off: most, Ld: most}, {D: d, Off: most, Ld: most}, {D: d, Ld: 1}, {D: d, Off: 3, Ld: 7}} {
				for _, cols := range []int{0, 1, 4, 1 << 31, most} {
					errorIs(t, "no rows", trsm.Solve(kind, size, m, api.Mat{D: d, Cols: cols, Ld: 1}), api.OK)
					errorIs(t, "no rows", trsm.Solve(kind, size, m, api.Mat{Off: most, Cols: cols, Ld: most}), api.OK)
				}
			}
			m := mat(3, 3, 1, 2, 3, 4, 5, 6, 7, 8, 9)
			errorIs(t, "no columns", trsm.Solve(kind, size, m, api.Mat{Rows: 3, Ld: 3}), api.OK)
			errorIs(t, "no columns", trsm.Solve(kind, size, m, api.Mat{D: m.D, Off: most, Rows: 3, Ld: most}), api.OK)
			is(t, "no columns", byRows(m), []float64{1, 2, 3, 4, 5, 6, 7, 8, 9})
		}
	}
	is(t, "nothing", d, []float64{1, 2, 3})
}

// P14.1: the order of the steps, and rounding, across blocks

// row is a system of which by is taken off what stands last (upper: first), each times 1, with nothing else.
func row(kind int, by ...float64) (m []float64) {
	n := len(by) + 1
	m = make([]float64, n*n)
	for i := range n {
		m[i*n+i] = 1
	}
	if kind == lower {
		copy(m[(n-1)*n:], by)
	} else {
		copy(m[1:], by)
	}
	return m
}

// restIs looks whether, of ones and from, there is left want, when by is taken off one by one: in the kind lower from the left, in the kind upper from the right.
func restIs(t *testing.T, what string, kind int, from, want float64, by ...float64) {
	t.Helper()
	ones := slices.Repeat([]float64{1}, len(by))
	if kind == lower {
		eachColumn(t, what, kind, row(kind, by...), append(slices.Clone(ones), from), append(slices.Clone(ones), want))
	} else {
		eachColumn(t, what, kind, row(kind, by...), append([]float64{from}, ones...), append([]float64{want}, ones...))
	}
}

func TestOrderAcrossBlocks(t *testing.T) {
	for _, c := range []struct {
		what       string
		from, want float64
		by         []float64 // in the order in which they must be taken off
	}{
		{"1 is lost", 1, 0, []float64{-0x1p53, 0x1p53}},
		{"1 stays", 1, 1, []float64{0x1p53, -0x1p53}},
		{"four of them", 0, 0, []float64{1e16, 1, -1e16, 0}},
		{"four others", 0, -1, []float64{1e16, -1e16, 1, 0}},
		{"two, then two", 0, -1, []float64{0, 1e16, -1e16, 1}},
		{"none is summed by itself", 0x1p53, 0x1p53, []float64{-1, -1, -1, -1}},
		{"from below", 0, -0x1p53 - 4, []float64{1, 1, 2, 0x1p53}},
		{"from above", 0, -0x1p53, []float64{0x1p53, 1, 1, 1}},
		{"doesn't come back", top, inf, []float64{-top, top, 1}},
		{"stays within", top, top, []float64{top, -top, 1}},
	} {
		restIs(t, c.what, lower, c.from, c.want, c.by...)
		slices.Reverse(c.by)
		restIs(t, c.what, upper, c.from, c.want, c.by...)
	}
}

func TestStepsAreNotFused(t *testing.T) {
	x := 1 + 0x1p-30 // its square is 1 + 2^-29 + 2^-60, rounded without the last
	for _, c := range []struct{ by, known, rest, want float64 }{
		{x, x, 1 + 0x1p-29, 0},
		{-x, x, -1 - 0x1p-29, 0},
		{0x1p1000, 0x1p24, top, -inf},
		{0x1p-600, 0x1p-475, tiny, tiny},
		{0x1p-600, 3 * 0x1p-474, tiny, -2 * tiny},
	} {
		eachColumn(t, "a product that is rounded", lower, []float64{1, 0, 0, 0, 1, 0, c.by, 0, 1}, []float64{c.known, 0, c.rest}, []float64{c.known, 0, c.want})
		eachColumn(t, "a product that is rounded", upper, []float64{1, 0, c.by, 0, 1, 0, 0, 0, 1}, []float64{c.rest, 0, c.known}, []float64{c.want, 0, c.known})
	}
}

func TestQuotients(t *testing.T) {
	seventh := over(1, 7)
	eachColumn(t, "not times 1 over it", upper, []float64{49, 0, 0, 49}, []float64{49, 5}, []float64{1, over(5, 49)})
	eachColumn(t, "1 over it is too great", upper, []float64{0x1p-1040, 0, 0, top}, []float64{0x1p-1030, top}, []float64{1024, 1})
	eachColumn(t, "what is divided is taken off", upper, []float64{3, 0, 5, 0, 1, 0, 0, 0, 7}, []float64{1, 0, 1}, []float64{over(less(1, times(5, seventh)), 3), 0, seventh})
	eachColumn(t, "1 stands on the diagonal", lower, []float64{3, 0, 5, 9}, []float64{2, 11}, []float64{2, 1})
}

// P14.1: noughts, infinities, NaNs

func TestSystemsOfAllKindsOfNumbers(t *testing.T) {
	for _, by := range odd() {
		for _, known := range odd() {
			rest := odd()
			n := len(rest)
			s := system{lower, 3, n, []float64{1, 5, 5, 0, 1, 5, by, -1, 1}, slices.Concat(slices.Repeat([]float64{known}, n), make([]float64, n), rest)}
			s2 := system{upper, 3, n, []float64{-3, 0.5, by, 5, 1, 0, 5, 5, 1}, slices.Concat(rest, make([]float64, n), slices.Repeat([]float64{known}, n))}
			for _, s := range []system{s, s2} {
				want := s.solved()
				for size := 1; size <= 3; size++ {
					x := mat(3, n, s.x...)
					errorIs(t, "all kinds", trsm.Solve(s.kind, size, mat(3, 3, s.m...), x), api.OK)
					is(t, "all kinds, "+names(s.kind), byRows(x), want)
				}
			}
		}
	}
}

func TestNoughtsAcrossBlocks(t *testing.T) {
	for _, kind := range kinds() {
		restIs(t, "0 less 0", kind, 0, 0, 0, 0, 0)
		restIs(t, "0 less -0", kind, 0, 0, nought, nought, nought)
		restIs(t, "-0 less 0", kind, nought, nought, 0, 0, 0)
		restIs(t, "-0 less -0", kind, nought, 0, nought, nought, nought)
		restIs(t, "-0 less both", kind, nought, 0, 0, nought, 0)
		restIs(t, "cancels", kind, 3, 0, 1, 1, 1)
		restIs(t, "cancels from below", kind, -3, 0, -1, -1, -1)
		restIs(t, "infinities", kind, 1, nan, inf, 1, -inf)
		restIs(t, "an infinity", kind, 1, -inf, 1, inf, 1)
		restIs(t, "NaN", kind, 1, nan, 1, nan, 1)
	}
	m := []float64{1, 0, 0, 0, 1, 0, 0, 0, 1} // noughts aren't cut short
	eachColumn(t, "a 0 times an infinity", lower, m, []float64{inf, 1, 2}, []float64{inf, nan, nan})
	eachColumn(t, "a 0 times an infinity", upper, m, []float64{2, 1, inf}, []float64{nan, nan, inf})
	eachColumn(t, "a 0 times NaN", lower, m, []float64{1, nan, 2}, []float64{1, nan, nan})
	eachColumn(t, "a 0 times NaN", upper, m, []float64{2, nan, 1}, []float64{nan, nan, 1})
}

func TestNaNAtEachPlace(t *testing.T) {
	for _, kind := range kinds() {
		base := system{kind, 4, 2, []float64{2, 3, 5, 1, -4, 8, 7, 2, 6, -3, 4, 3, 1, 1, 2, 5}, []float64{1, 2, 3, 4, 5, 6, 7, 8}}
		for p := range 16 {
			s := system{kind, 4, 2, slices.Clone(base.m), base.x}
			s.m[p] = nan
			comesTo(t, "a NaN in m", s, s.solved()...)
		}
		for p := range 8 {
			s := system{kind, 4, 2, base.m, slices.Clone(base.x)}
			s.x[p] = nan
			comesTo(t, "a NaN in x", s, s.solved()...)
		}
	}
}

// P14.1: a 0 on the diagonal

func TestNoughtOnTheDiagonal(t *testing.T) {
	x := []float64{1, 2, 3, 4, 5, 6, 7, 8}
	for p := range 4 {
		for _, zero := range []float64{0, nought} {
			s := system{lower, 4, 2, []float64{2, 3, 5, 1, -4, 8, 7, 2, 6, -3, 4, 3, 1, 1, 2, 5}, x}
			want := s.solved()
			s.m[5*p] = zero
			comesTo(t, "a 0 that isn't read", s, want...)
			for _, size := range sizes() {
				for _, w := range layings() {
					unchanged(t, "a 0", upper, size, laid(w, 4, 4, s.m...), laid(w, 4, 2, x...), api.ErrZero)
					unchanged(t, "a 0, no columns", upper, size, laid(w, 4, 4, s.m...), laid(w, 4, 0), api.ErrZero)
				}
			}
		}
	}
	for _, x := range odd() {
		unchanged(t, "a 0 alone", upper, 1, mat(1, 1, 0), mat(1, 2, x, x), api.ErrZero)
		unchanged(t, "a -0 alone", upper, most, mat(1, 1, nought), mat(1, 2, x, x), api.ErrZero)
	}
}

// TestWhatIsNoNoughtOnTheDiagonal: what comes near to 0, or can't be held against it, divides.
func TestWhatIsNoNoughtOnTheDiagonal(t *testing.T) {
	for _, d := range []float64{tiny, -tiny, 0x1p-1022, nan, inf, -inf} {
		comesTo(t, "divides", system{upper, 2, 2, []float64{d, 1, 0, d}, []float64{1, 2, 0, 3}}, system{upper, 2, 2, []float64{d, 1, 0, d}, []float64{1, 2, 0, 3}}.solved()...)
	}
}

// P14.1: x and m in one list

// lastOf answers the last place of m's span; -1, if it has none.
func lastOf(m api.Mat) int {
	if m.Rows == 0 || m.Cols == 0 {
		return -1
	}
	return m.Off + (m.Cols-1)*m.Ld + m.Rows - 1
}

// crosses tells whether the spans of a and b have a place in common.
func crosses(a, b api.Mat) bool {
	for p := a.Off; p <= lastOf(a); p++ {
		if b.Off <= p && p <= lastOf(b) {
			return true
		}
	}
	return false
}

// matrices are all matrices of up to 2 rows and columns within d, of three Ld.
func matrices(d []float64) []api.Mat {
	var all []api.Mat
	for off := range len(d) {
		for rows := range 3 {
			for cols := range 3 {
				for ld := 1; ld <= 3; ld++ {
					if m := (api.Mat{D: d, Off: off, Rows: rows, Cols: cols, Ld: ld}); view.Good(m) {
						all = append(all, m)
					}
				}
			}
		}
	}
	return all
}

func TestSolveWithinOneList(t *testing.T) {
	was := []float64{2, -3, 5, 7, -11, 13, 17, 19}
	d := mat(1, 8, was...).D
	k := 0
	for _, m := range matrices(d) {
		for _, x := range matrices(d) {
			if m.Rows == m.Cols && x.Rows == m.Rows {
				for _, kind := range kinds() {
					within(t, kind, sizes()[k%3], m, x)
					copy(d, was)
					k++
				}
			}
		}
	}
}

// within looks whether x, in one list with m, comes to what it must, or meets it and nothing changes.
func within(t *testing.T, kind, size int, m, x api.Mat) {
	t.Helper()
	was := slices.Clone(x.D)
	s := system{kind, m.Rows, x.Cols, byRows(m), byRows(x)}
	e := trsm.Solve(kind, size, m, x)
	if crosses(x, m) {
		errorIs(t, "x meets", e, api.ErrApart)
		is(t, "x meets", x.D, was)
		return
	}
	errorIs(t, "in one list", e, api.OK)
	for k, w := range s.solved() {
		was[x.Off+k/x.Cols+k%x.Cols*x.Ld] = w
	}
	is(t, "in one list", x.D, was)
}

func TestPartsOfOneMatrix(t *testing.T) {
	for _, kind := range kinds() {
		for _, size := range sizes() {
			s := made(8, kind, 3, 2, 4)
			all := make([]float64, 0, 15)
			for i := range 3 {
				all = append(append(all, s.m[3*i:3*i+3]...), s.x[2*i:2*i+2]...)
			}
			table := view.Dense(3, 5, all...)
			errorIs(t, "columns of it", trsm.Solve(kind, size, view.Part(table, 0, 0, 3, 3), view.Part(table, 0, 3, 3, 2)), api.OK)
			is(t, "columns of it", byRows(view.Part(table, 0, 0, 3, 3)), s.m)
			is(t, "columns of it", byRows(view.Part(table, 0, 3, 3, 2)), s.solved())
			table = view.Dense(4, 2, 1, 2, 3, 4, 5, 6, 7, 8)
			unchanged(t, "rows of it cross, though they have no number in common", kind, size, view.Part(table, 0, 0, 2, 2), view.Part(table, 2, 0, 2, 2), api.ErrApart)
		}
	}
}

func TestListsOfTwoLengthsAreOne(t *testing.T) {
	for _, size := range sizes() {
		d := mat(1, 8, 2, 9, 1, 4, 4, 8, 2, 4).D
		m, x := api.Mat{D: d[:4:4], Rows: 2, Cols: 2, Ld: 2}, api.Mat{D: d, Off: 3, Rows: 2, Cols: 2, Ld: 2}
		unchanged(t, "x meets m", upper, size, m, x, api.ErrApart)
		unchanged(t, "m in the longer one meets x", upper, size, x, m, api.ErrApart)
		x.Off = 4
		errorIs(t, "x behind m", trsm.Solve(upper, size, m, x), api.OK)
		is(t, "x behind m", d, []float64{2, 9, 1, 4, 1, 2, 0.5, 1})
	}
}

// P14.1: errors

// unchanged looks whether Solve answers that error, and changes nothing.
func unchanged(t *testing.T, what string, kind, size int, m, x api.Mat, want api.Errno) {
	t.Helper()
	dm, dx := slices.Clone(m.D), slices.Clone(x.D)
	errorIs(t, what, trsm.Solve(kind, size, m, x), want)
	is(t, what+", m", m.D, dm)
	is(t, what+", x", x.D, dx)
}

func TestNoKind(t *testing.T) {
	for _, kind := range noKinds() {
		for _, size := range append(sizes(), wrongSizes()...) {
			m := mat(2, 2, 1, 2, 3, 4)
			unchanged(t, "no kind", kind, size, m, mat(2, 2, 5, 6, 7, 8), api.ErrArg)
			unchanged(t, "no kind, sizes that differ", kind, size, m, mat(1, 2, 5, 6), api.ErrArg)
			unchanged(t, "no kind, x is m", kind, size, m, m, api.ErrArg)
			unchanged(t, "no kind, a 0", kind, size, mat(2, 2), mat(2, 1, 5, 6), api.ErrArg)
			unchanged(t, "no kind, no numbers", kind, size, mat(0, 0), mat(0, 3), api.ErrArg)
			for _, w := range wrong() {
				unchanged(t, "no kind, nothing is right", kind, size, w, w, api.ErrArg)
			}
		}
	}
}

func TestSizesThatArentRight(t *testing.T) {
	for _, kind := range kinds() {
		for _, size := range wrongSizes() {
			m := mat(2, 2, 1, 2, 3, 4)
			unchanged(t, "all else is right", kind, size, m, mat(2, 2, 5, 6, 7, 8), api.ErrArg)
			unchanged(t, "rows that differ", kind, size, m, mat(1, 2, 5, 6), api.ErrArg)
			unchanged(t, "x is m", kind, size, m, m, api.ErrArg)
			unchanged(t, "a 0", kind, size, mat(2, 2), mat(2, 1, 5, 6), api.ErrArg)
			unchanged(t, "no numbers", kind, size, mat(0, 0), mat(0, 3), api.ErrArg)
			unchanged(t, "no columns", kind, size, m, mat(2, 0), api.ErrArg)
			for _, w := range wrong() {
				unchanged(t, "nothing is right", kind, size, w, w, api.ErrArg)
			}
		}
	}
}

func TestMatricesThatArentRight(t *testing.T) {
	right := []api.Mat{mat(2, 2, 1, 2, 3, 4), mat(2, 3, 1, 2, 3, 4, 5, 6), mat(0, 0), mat(0, 2), mat(1, 1, 5), mat(2, 2)}
	for _, kind := range kinds() {
		for _, size := range sizes() {
			for _, w := range wrong() {
				for _, r := range right {
					unchanged(t, "m isn't right", kind, size, w, r, api.ErrArg)
					unchanged(t, "x isn't right", kind, size, r, w, api.ErrArg)
				}
				unchanged(t, "none is right", kind, size, w, w, api.ErrArg)
			}
		}
	}
}

func TestErrorsOfSizes(t *testing.T) {
	m := func(rows, cols int) api.Mat { return laid(laying{1, 1, 2}, rows, cols, anyFloats(3, rows*cols, 2)...) }
	for k := range 4 * 4 * 4 * 4 {
		a, x, want := m(k%4, k/4%4), m(k/16%4, k/64), api.OK
		if a.Rows != a.Cols || x.Rows != a.Rows {
			want = api.ErrSize
		}
		for _, kind := range kinds() {
			for _, size := range sizes() {
				y := m(x.Rows, x.Cols)
				if want != api.OK {
					unchanged(t, "sizes", kind, size, a, y, want)
				} else {
					errorIs(t, "sizes", trsm.Solve(kind, size, a, y), want)
				}
			}
		}
	}
}

func TestWhichErrorComesFirst(t *testing.T) {
	d := mat(1, 8, 0, 2, 3, 0, 5, 6, 7, 8).D
	m := func(off, rows, cols, ld int) api.Mat { return api.Mat{D: d, Off: off, Rows: rows, Cols: cols, Ld: ld} }
	apart := view.Dense(2, 2, 0, 2, 3, 4)
	for _, c := range []struct {
		what string
		m, x api.Mat
		want api.Errno
	}{
		{"m isn't right, rows that differ, x meets", m(0, 3, 3, 2), m(0, 2, 2, 2), api.ErrArg},
		{"x isn't right, rows that differ, x meets, a 0", m(0, 2, 2, 2), m(0, 3, 2, 2), api.ErrArg},
		{"m isn't square, x meets, a 0", m(0, 2, 3, 2), m(0, 2, 2, 2), api.ErrSize},
		{"m isn't square, x has its columns", m(0, 2, 3, 2), m(0, 3, 2, 3), api.ErrSize},
		{"x has other rows, meets, a 0", m(0, 2, 2, 2), m(0, 1, 2, 2), api.ErrSize},
		{"x has as many columns, and other rows", m(0, 2, 2, 2), m(4, 1, 2, 1), api.ErrSize},
		{"x has no columns and other rows, a 0", apart, m(0, 1, 0, 2), api.ErrSize},
		{"m has no numbers, x has", m(0, 0, 0, 1), m(0, 1, 1, 1), api.ErrSize},
		{"m has no rows, but columns", m(0, 0, 2, 1), m(0, 0, 2, 1), api.ErrSize},
		{"x meets, a 0", m(0, 2, 2, 2), m(3, 2, 2, 2), api.ErrApart},
		{"x is m, a 0", m(0, 2, 2, 2), m(0, 2, 2, 2), api.ErrApart},
		{"x meets m's last number", m(0, 2, 2, 2), m(3, 2, 1, 2), api.ErrApart},
		{"x stands between m's numbers", m(0, 1, 1, 1), m(0, 1, 2, 7), api.ErrApart},
		{"m stands between x' columns", m(3, 1, 1, 1), m(0, 1, 2, 7), api.ErrApart},
		{"x and m by turns", m(0, 2, 2, 4), m(2, 2, 2, 4), api.ErrApart},
	} {
		for _, kind := range kinds() {
			for _, size := range sizes() {
				unchanged(t, c.what, kind, size, c.m, c.x, c.want)
			}
			for _, size := range wrongSizes() {
				unchanged(t, c.what+", a size of blocks that isn't right", kind, size, c.m, c.x, api.ErrArg)
			}
		}
		for _, kind := range noKinds() {
			unchanged(t, c.what+", no kind", kind, 1, c.m, c.x, api.ErrArg)
		}
	}
	unchanged(t, "a 0, and x in the same list behind it", upper, 1, m(0, 2, 2, 2), m(4, 2, 2, 2), api.ErrZero)
}

// R6

func TestOneAnswer(t *testing.T) {
	for _, kind := range kinds() {
		s := made(7, kind, 6, 5, 100)
		for range 3 {
			x := mat(6, 5, s.x...)
			errorIs(t, "again", trsm.Solve(kind, 4, mat(6, 6, s.m...), x), api.OK)
			is(t, "again", byRows(x), s.solved())
		}
	}
}

// P1

func edges() []int { return []int{least, -1, 0, 1, 2, 3, 4097, 1 << 31, 1 << 62, most - 1, most} }

func TestEveryCallEnds(t *testing.T) {
	k, n := 0, len(edges())
	for _, l := range [][]float64{nil, {1, 2, 3, 4}} {
		for _, off := range edges() {
			for _, rows := range edges() {
				for _, cols := range edges() {
					for _, ld := range edges() {
						m := api.Mat{D: l, Off: off, Rows: rows, Cols: cols, Ld: ld}
						anySizes(t, edges()[k%n], edges()[k/n%n], m)
						anySizes(t, lower, sizes()[k%len(sizes())], m)
						anySizes(t, upper, sizes()[k%len(sizes())], m)
						k++
					}
				}
			}
		}
	}
}

// anySizes looks whether Solve tells of the kind, the size and m whether they are right, and of the rows that it asks for.
func anySizes(t *testing.T, kind, size int, m api.Mat) {
	t.Helper()
	two := func() api.Mat { return view.Dense(2, 2, 1, 2, 3, 4) }
	its := func() api.Mat {
		return api.Mat{D: slices.Clone(m.D), Off: m.Off, Rows: m.Rows, Cols: m.Cols, Ld: m.Ld}
	}
	expected := func(fits bool) api.Errno {
		switch {
		case kind != lower && kind != upper || size < 1 || !view.Good(m):
			return api.ErrArg
		case !fits:
			return api.ErrSize
		}
		return api.OK
	}
	errorIs(t, "Solve by it", trsm.Solve(kind, size, its(), two()), expected(m.Rows == 2 && m.Cols == 2))
	errorIs(t, "Solve it", trsm.Solve(kind, size, two(), its()), expected(m.Rows == 2))
	want := expected(m.Rows == m.Cols)
	if want == api.OK && m.Rows > 0 {
		want = api.ErrApart
	}
	errorIs(t, "Solve it by it", trsm.Solve(kind, size, m, m), want)
}
