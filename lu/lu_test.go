package lu_test

import (
	"math"
	"math/big"
	"slices"
	"testing"

	"straightedge/api"
	"straightedge/lu"
	"straightedge/move"
	"straightedge/num"
	"straightedge/view"
)

const (
	most  = math.MaxInt
	least = math.MinInt
	top   = math.MaxFloat64
	tiny  = math.SmallestNonzeroFloat64
	guard = -77.5 // what stands between the numbers, beside them and behind the list
)

var (
	inf    = math.Inf(1)
	nan    = math.NaN()
	nought = math.Copysign(0, -1)
)

func floats(l ...float64) []float64 { return l }
func ints(l ...int) []int           { return l }

// laying is a way to lay a matrix' numbers in a list: with an Ld that is more by that than it must be, and with that around them.
type laying struct {
	off, more, after int
	around           float64
}

func layings() []laying {
	return []laying{{0, 0, 0, guard}, {3, 0, 2, nan}, {0, 1, 0, inf}, {1, 2, 4, 0}}
}

// laid is a matrix of the numbers l, row by row, with w's around them everywhere else, and behind the list's length.
func laid(w laying, rows, cols int, l ...float64) api.Mat {
	ld, n := max(1, rows)+w.more, 0
	if rows > 0 && cols > 0 {
		n = (cols-1)*ld + rows
	}
	d := slices.Repeat([]float64{w.around}, w.off+n+w.after+5)
	m := api.Mat{D: d[:len(d)-5], Off: w.off, Rows: rows, Cols: cols, Ld: ld}
	for k, x := range l {
		m.D[w.off+k/cols+k%cols*ld] = x
	}
	return m
}

// mat is a matrix of the numbers l, row by row, and no more.
func mat(rows, cols int, l ...float64) api.Mat {
	return laid(laying{around: guard}, rows, cols, l...)
}

// isLaid looks whether m's list is just as laid makes it of w and l: its memory behind its length, too.
func isLaid(t *testing.T, what string, m api.Mat, w laying, l []float64) {
	t.Helper()
	want := laid(w, m.Rows, m.Cols, l...)
	if !slices.EqualFunc(m.D[:cap(m.D)], want.D[:cap(want.D)], num.Same) {
		t.Errorf("%s: the matrix is changed to %v", what, m.D)
	}
}

// isDense looks whether m is just what view's Dense makes of l, to the last bit.
func isDense(t *testing.T, what string, m api.Mat, rows, cols int, l []float64) {
	t.Helper()
	want := view.Dense(rows, cols, l...)
	if m.Off != 0 || m.Rows != want.Rows || m.Cols != want.Cols || m.Ld != want.Ld || !slices.EqualFunc(m.D, want.D, num.Same) {
		t.Errorf("%s: %v, not %v", what, m, want)
	}
}

// isZero looks whether m is the zero value.
func isZero(t *testing.T, what string, m api.Mat) {
	t.Helper()
	if len(m.D) > 0 || m.Off != 0 || m.Rows != 0 || m.Cols != 0 || m.Ld != 0 {
		t.Errorf("%s: %v beside an error", what, m)
	}
}

func errorIs(t *testing.T, what string, got, want api.Errno) {
	t.Helper()
	if got != want {
		t.Errorf("%s: error %d, not %d", what, int(got), int(want))
	}
}

// wrong are matrices that aren't right, each by a thing of its own.
func wrong() []api.Mat {
	d := mat(1, 6, 1, 2, 3, 4, 5, 6).D
	return []api.Mat{
		{},
		{D: d},
		{D: d, Rows: 2, Cols: 2},
		{D: d, Rows: 2, Cols: 2, Ld: 1},
		{D: d, Rows: 2, Cols: 2, Ld: -2},
		{D: d, Rows: -1, Cols: 2, Ld: 2},
		{D: d, Rows: 2, Cols: -1, Ld: 2},
		{D: d, Rows: -1, Cols: -1, Ld: 2},
		{D: d, Off: -1, Rows: 2, Cols: 2, Ld: 2},
		{D: d, Off: 3, Rows: 2, Cols: 2, Ld: 2},
		{D: d, Rows: 2, Cols: 2, Ld: 5},
		{D: mat(1, 3, 1, 2, 3).D, Rows: 2, Cols: 2, Ld: 2},
		{D: d, Rows: 2, Cols: 5, Ld: 1 << 62},
		{D: d, Rows: 7, Cols: 1, Ld: 7},
		{D: d, Rows: 65, Cols: 65, Ld: 65},
		{D: d, Rows: most, Cols: most, Ld: most, Off: most},
		{D: d, Rows: least, Cols: least, Ld: least, Off: least},
		{D: d, Ld: 0, Rows: 0, Cols: 2},
		{D: d, Off: -1, Ld: 1},
		{Rows: 2, Cols: 2, Ld: 2},
		{D: []float64{nan, inf}, Rows: 2, Cols: 2, Ld: 2},
		{D: []float64{0, 0}, Rows: 2, Cols: 2, Ld: 2},
	}
}

// anyFloats are n floats that look like chance and are the same each time: their Exps are about from -wide to wide.
func anyFloats(seed uint64, n, wide int) []float64 {
	l := make([]float64, n)
	for i := range l {
		seed = seed*6364136223846793005 + 1442695040888963407
		x := float64(int64(seed)) / (1 << 63)
		seed = seed*6364136223846793005 + 1442695040888963407
		l[i] = math.Ldexp(x, int(seed>>33)%(2*wide+1)-wide)
	}
	return l
}

// anyOf are n of the numbers of, that look like chance and are the same each time.
func anyOf(seed uint64, n int, of ...float64) []float64 {
	l := make([]float64, n)
	for i := range l {
		seed = seed*6364136223846793005 + 1442695040888963407
		l[i] = of[int(seed>>33)%len(of)]
	}
	return l
}

// exactly is x, with room for all digits of a sum of products of floats, and enough of a quotient.
func exactly(x float64) *big.Float { return room().SetFloat64(x) }

func room() *big.Float { return new(big.Float).SetPrec(5000) }

// times, less and over are what IEEE 754 makes of two numbers: exactly, then rounded once. Infinities, NaNs, and what is said of noughts' signs are left to the machine.
func times(x, y float64) float64 {
	if !num.Finite(x, y) {
		return x * y
	}
	p, _ := room().Mul(exactly(x), exactly(y)).Float64()
	return p
}

func less(x, y float64) float64 {
	if x == 0 && y == 0 || !num.Finite(x, y) {
		return x - y
	}
	d, _ := room().Sub(exactly(x), exactly(y)).Float64()
	return d
}

func over(x, y float64) float64 {
	if x == 0 || y == 0 || !num.Finite(x, y) {
		return x / y
	}
	q, _ := room().Quo(exactly(x), exactly(y)).Float64()
	return q
}

// answer is what Factor answers: its Lu row by row.
type answer struct {
	lu  []float64
	piv []int
	k   int
}

// apart is what chapter 16's words make of n rows and columns, row by row.
func apart(n int, m []float64) answer {
	l, piv := slices.Clone(m), make([]int, n)
	for k := range n {
		p := k
		for i := k; i < n; i++ {
			if math.Abs(l[i*n+k]) > math.Abs(l[p*n+k]) {
				p = i
			}
		}
		for j := range n {
			l[k*n+j], l[p*n+j] = l[p*n+j], l[k*n+j]
		}
		piv[k] = p
		if l[k*n+k] == 0 {
			return answer{k: k + 1}
		}
		for i := k + 1; i < n; i++ {
			l[i*n+k] = over(l[i*n+k], l[k*n+k])
			for j := k + 1; j < n; j++ {
				l[i*n+j] = less(l[i*n+j], times(l[i*n+k], l[k*n+j]))
			}
		}
	}
	return answer{lu: l, piv: piv}
}

// factorIs looks whether Factor answers want of n rows and columns, row by row, however they are laid, and twice, in new memory, and changes nothing.
func factorIs(t *testing.T, what string, n int, l []float64, want answer) {
	t.Helper()
	for _, w := range layings() {
		m := laid(w, n, n, l...)
		for range 2 {
			f, k, e := lu.Factor(m)
			answerIs(t, what, n, f, k, e, want)
			isLaid(t, what, m, w, l)
			for i := range f.Lu.D {
				f.Lu.D[i] = 55
			}
			for i := range f.Piv {
				f.Piv[i] = 55
			}
			isLaid(t, what+", written over", m, w, l)
		}
	}
}

// answerIs looks whether f, k and e are want.
func answerIs(t *testing.T, what string, n int, f api.Factors, k int, e api.Errno, want answer) {
	t.Helper()
	if k != want.k || !slices.Equal(f.Piv, want.piv) {
		t.Errorf("%s: %d and %v, not %d and %v", what, k, f.Piv, want.k, want.piv)
	}
	if want.k > 0 {
		errorIs(t, what, e, api.ErrZero)
		isZero(t, what, f.Lu)
		return
	}
	errorIs(t, what, e, api.OK)
	isDense(t, what, f.Lu, n, n, want.lu)
	if !lu.Right(f) {
		t.Errorf("%s: the factors aren't right", what)
	}
}

// singularAt looks whether Factor tells that the matrix is singular at k.
func singularAt(t *testing.T, what string, n, k int, l ...float64) {
	t.Helper()
	factorIs(t, what, n, l, answer{k: k})
}

// P16.1: Factor

func TestFactor(t *testing.T) {
	factorIs(t, "the document's", 2, floats(1, 2, 4, 4), answer{lu: floats(4, 4, 0.25, 1), piv: ints(1, 1)})
	factorIs(t, "none changes places", 2, floats(4, 2, 1, 3), answer{lu: floats(4, 2, 0.25, 2.5), piv: ints(0, 1)})
	factorIs(t, "one", 1, floats(-0.1), answer{lu: floats(-0.1), piv: ints(0)})
	factorIs(t, "a 0 is passed by", 2, floats(0, 1, 1, 0), answer{lu: floats(1, 0, 0, 1), piv: ints(1, 1)})
	factorIs(t, "rows change places whole, with what stands at their left", 3, floats(
		4, 8, 4,
		1, 4, 3,
		2, 8, 8,
	), answer{lu: floats(
		4, 8, 4,
		0.5, 4, 6,
		0.25, 0.5, -1,
	), piv: ints(0, 2, 2)})
	factorIs(t, "four", 4, floats(
		-2, 1, -1, 2,
		6, 1, -8, 18,
		8, 4, -8, 16,
		4, 6, -2, 4,
	), answer{lu: floats(
		8, 4, -8, 16,
		0.5, 4, 2, -4,
		-0.25, 0.5, -4, 8,
		0.75, -0.5, 0.25, 2,
	), piv: ints(2, 3, 2, 3)})
}

func TestFactorOfNoRows(t *testing.T) {
	d := floats(1, 2, 3)
	for _, m := range []api.Mat{{Ld: 1}, {D: d, Ld: 1}, {D: d, Off: 3, Ld: 9}, {Off: most, Ld: most}, view.Dense(0, 0)} {
		f, k, e := lu.Factor(m)
		answerIs(t, "no rows", 0, f, k, e, answer{})
	}
}

func TestFirstOfTheGreatestIsThePivot(t *testing.T) {
	factorIs(t, "of two that are as great", 2, floats(-3, 1, 3, 1), answer{lu: floats(-3, 1, -1, 2), piv: ints(0, 1)})
	factorIs(t, "the other sign", 2, floats(3, 1, -3, 1), answer{lu: floats(3, 1, -1, 2), piv: ints(0, 1)})
	factorIs(t, "further on", 3, floats(4, 0, 0, 2, 2, 1, 1, -2, 3), answer{lu: floats(4, 0, 0, 0.5, 2, 1, 0.25, -1, 4), piv: ints(0, 1, 2)})
	factorIs(t, "of the last two", 3, floats(1, 0, 0, 2, 4, 8, -2, 4, 0), answer{lu: floats(2, 4, 8, -1, 8, 8, 0.5, -0.25, -2), piv: ints(1, 2, 2)})
	factorIs(t, "without signs", 2, floats(1, 3, -2, 4), answer{lu: floats(-2, 4, -0.5, 5), piv: ints(1, 1)})
	factorIs(t, "by the last bit", 2, floats(1, 1, -1-0x1p-52, 0), answer{lu: floats(-1-0x1p-52, 0, over(1, -1-0x1p-52), 1), piv: ints(1, 1)})
	factorIs(t, "not above", 2, floats(8, 16, 4, 9), answer{lu: floats(8, 16, 0.5, 1), piv: ints(0, 1)})
}

func TestEachStepIsRounded(t *testing.T) {
	factorIs(t, "a quotient is no product", 2, floats(49, 0, 49, 1), answer{lu: floats(49, 0, 1, 1), piv: ints(0, 1)})
	factorIs(t, "once", 2, floats(10, 1, 1, 1), answer{lu: floats(10, 1, 0.1, 0.9), piv: ints(0, 1)})
	b := 1 - 0x1p-30
	factorIs(t, "the product, then the difference", 2, floats(1, b, b, 1), answer{lu: floats(1, b, b, 0x1p-29), piv: ints(0, 1)})
	singularAt(t, "likewise, to nothing", 2, 2, 1, b, b, 1-0x1p-29)
	factorIs(t, "beyond the greatest", 2, floats(1, -top, 1, top), answer{lu: floats(1, -top, 1, inf), piv: ints(0, 1)})
	factorIs(t, "below the least", 2, floats(2, tiny, tiny, 1), answer{lu: floats(2, tiny, 0, 1), piv: ints(0, 1)})
	factorIs(t, "of the least", 2, floats(4*tiny, 2*tiny, 3*tiny, tiny), answer{lu: floats(4*tiny, 2*tiny, 0.75, -tiny), piv: ints(0, 1)})
}

func TestProductsAreTakenOffFromTheLeft(t *testing.T) {
	of := func(x, y, z float64) []float64 { return floats(1, 0, x, 0, 1, y, 1, 1, z) }
	to := func(x, y, z float64) answer {
		return answer{lu: floats(1, 0, x, 0, 1, y, 1, 1, z), piv: ints(0, 1, 2)}
	}
	factorIs(t, "1 is lost", 3, of(-1e16, 1e16-2, 1), to(-1e16, 1e16-2, 2))
	factorIs(t, "1 stays", 3, of(1e16, 2-1e16, 1), to(1e16, 2-1e16, -2))
	factorIs(t, "beyond the greatest", 3, of(-top, top, top), to(-top, top, inf))
	factorIs(t, "within", 3, of(top, -1, top), to(top, -1, 1))
}

func TestSignsOfNoughts(t *testing.T) {
	factorIs(t, "a factor of 0 isn't passed by", 3, floats(1, 0, nought, 0, 1, nought, 0, 0, 1), answer{lu: floats(1, 0, nought, 0, 1, 0, 0, 0, 1), piv: ints(0, 1, 2)})
	factorIs(t, "nor one of -0", 3, floats(1, 0, nought, nought, 1, nought, 0, 0, 1), answer{lu: floats(1, 0, nought, nought, 1, nought, 0, 0, 1), piv: ints(0, 1, 2)})
	factorIs(t, "a quotient's", 2, floats(-1, 5, 0, 1), answer{lu: floats(-1, 5, nought, 1), piv: ints(0, 1)})
	factorIs(t, "a difference's", 3, floats(1, 0, 0.5, 0, 1, 0, 1, 0, 1), answer{lu: floats(1, 0, 0.5, 0, 1, 0, 1, 0, 0.5), piv: ints(0, 1, 2)})
	for seed := range uint64(200) {
		l := anyOf(seed, 16, 0, nought, 1, -1, 2)
		factorIs(t, "many", 4, l, apart(4, l))
	}
}

func TestFactorOfWhatIsNotFinite(t *testing.T) {
	for _, x := range floats(nan, inf, -inf, top) {
		factorIs(t, "one", 1, floats(x), answer{lu: floats(x), piv: ints(0)})
	}
	factorIs(t, "nothing is greater than a NaN", 2, floats(nan, 1, 5, 2), answer{lu: floats(nan, 1, nan, nan), piv: ints(0, 1)})
	factorIs(t, "nor a NaN than anything", 2, floats(1, 3, nan, 2), answer{lu: floats(1, 3, nan, nan), piv: ints(0, 1)})
	singularAt(t, "nor than 0", 2, 1, 0, 3, nan, 2)
	singularAt(t, "nor than -0", 2, 1, nought, 3, nan, inf)
	factorIs(t, "an infinity is", 2, floats(1, 2, -inf, 3), answer{lu: floats(-inf, 3, nought, 2), piv: ints(1, 1)})
	factorIs(t, "than another one not", 2, floats(inf, 2, -inf, 3), answer{lu: floats(inf, 2, nan, nan), piv: ints(0, 1)})
	factorIs(t, "0 times an infinity", 2, floats(1, inf, 0, 3), answer{lu: floats(1, inf, 0, nan), piv: ints(0, 1)})
	factorIs(t, "behind a NaN", 3, floats(1, 2, 3, nan, 1, 1, 0.5, 3, 1), answer{lu: floats(1, 2, 3, nan, nan, nan, 0.5, nan, nan), piv: ints(0, 1, 2)})
	for seed := range uint64(300) {
		l := anyOf(seed, 16, 0, nought, tiny, 1, -3, 0.1, top, -top, inf, -inf, nan)
		factorIs(t, "many", 4, l, apart(4, l))
	}
}

func TestFactorOfManyNumbers(t *testing.T) {
	for n := range 9 {
		for _, wide := range []int{1, 4, 30, 300, 1000} {
			l := anyFloats(uint64(n*10+wide), n*n, wide)
			factorIs(t, "many", n, l, apart(n, l))
		}
		for seed := range uint64(20) {
			l := anyOf(seed, n*n, 1, 2, -2, 3, -4, 0.5)
			factorIs(t, "many that are alike", n, l, apart(n, l))
		}
	}
	for _, n := range []int{16, 33, 63, 64} {
		l := anyFloats(uint64(n), n*n, 3)
		m := mat(n, n, l...)
		f, k, e := lu.Factor(m)
		answerIs(t, "great", n, f, k, e, apart(n, l))
	}
}

// P16.1: singular matrices

func TestSingular(t *testing.T) {
	singularAt(t, "one", 1, 1, 0)
	singularAt(t, "-0", 1, 1, nought)
	singularAt(t, "the document's", 2, 2, 1, 2, 2, 4)
	singularAt(t, "an empty column", 2, 1, 0, 1, 0, 1)
	singularAt(t, "an empty column of either sign", 3, 1, 0, 1, 2, nought, 5, 6, 0, 8, 9)
	singularAt(t, "an empty row", 3, 3, 4, 1, 2, 0, 0, 0, 4, 2, 1)
	singularAt(t, "the first of two", 3, 2, 1, 1, 1, 1, 1, 1, 1, 1, 1)
	singularAt(t, "in the middle, though what is behind isn't 0", 3, 2, 1, 2, 3, 1, 2, 4, 1, 2, 6)
	singularAt(t, "all", 4, 1, make([]float64, 16)...)
	singularAt(t, "where a product is rounded up", 2, 2, 1, tiny, 0.75, tiny)
	singularAt(t, "where a quotient is rounded down", 2, 2, 4, 0, tiny, 0)
	singularAt(t, "behind a NaN that isn't in the column", 2, 1, 0, nan, nought, inf)
	factorIs(t, "not where only the first one is 0", 3, floats(0, 2, 0, 1, 0, 0, 0, 0, 4), answer{lu: floats(1, 0, 0, 0, 2, 0, 0, 0, 4), piv: ints(1, 1, 2)})
	factorIs(t, "not by the least number", 2, floats(tiny, 1, 0, tiny), answer{lu: floats(tiny, 1, 0, tiny), piv: ints(0, 1)})
}

func TestSingularAtEachPlace(t *testing.T) {
	for _, n := range []int{1, 2, 5, 64} {
		for k := range n {
			l := make([]float64, n*n)
			for i := range n {
				l[i*n+i] = 3
			}
			l[k*n+k] = nought
			m := mat(n, n, l...)
			f, at, e := lu.Factor(m)
			answerIs(t, "each place", n, f, at, e, answer{k: k + 1})
			isLaid(t, "each place", m, laying{around: guard}, l)
		}
	}
}

// P16.1: errors

func TestFactorErrors(t *testing.T) {
	fails := func(what string, m api.Mat, want api.Errno) {
		t.Helper()
		f, k, e := lu.Factor(m)
		errorIs(t, what, e, want)
		isZero(t, what, f.Lu)
		if k != 0 || len(f.Piv) > 0 {
			t.Errorf("%s: %d and %v beside an error", what, k, f.Piv)
		}
	}
	for _, m := range wrong() {
		fails("wrong", m, api.ErrArg)
	}
	fails("more columns", view.Dense(2, 3), api.ErrSize)
	fails("more rows", view.Dense(3, 2), api.ErrSize)
	fails("no rows, but columns", view.Dense(0, 1), api.ErrSize)
	fails("no columns, but rows", view.Dense(1, 0), api.ErrSize)
	fails("very many rows", api.Mat{Rows: most, Ld: most}, api.ErrSize)
	fails("very many columns", api.Mat{Cols: most, Ld: 1}, api.ErrSize)
	fails("65 of noughts", mat(65, 65), api.ErrSize)
	fails("65 of ones", mat(65, 65, slices.Repeat(floats(1), 65*65)...), api.ErrSize)
	fails("65 rows of 64", mat(65, 64, slices.Repeat(floats(1), 65*64)...), api.ErrSize)
	fails("64 rows of 65", mat(64, 65, slices.Repeat(floats(1), 65*64)...), api.ErrSize)
}

// P16.1: Right

// made are factors of what is laid by w of l, row by row, and of piv.
func made(w laying, l []float64, piv ...int) api.Factors {
	n := len(piv)
	return api.Factors{Lu: laid(w, n, n, l...), Piv: piv}
}

func TestRight(t *testing.T) {
	for _, w := range layings() {
		for _, f := range []api.Factors{
			made(w, nil),
			made(w, floats(nan), 0),
			made(w, floats(0, inf, 1, nought), 0, 1),
			made(w, floats(1, 2, 3, 4), 1, 1),
			made(w, make([]float64, 9), 2, 2, 2),
			made(w, make([]float64, 9), 0, 1, 2),
			made(w, make([]float64, 100*100), append(make99(), 99)...),
		} {
			if !lu.Right(f) {
				t.Error("not right", w, f.Piv)
			}
		}
	}
	for _, f := range []api.Factors{{Lu: api.Mat{Ld: 1}}, {Lu: api.Mat{Off: most, Ld: most}, Piv: ints()}} {
		if !lu.Right(f) {
			t.Error("not right", f)
		}
	}
}

// make99 are 99 pivots, each the last of a hundred rows or its own.
func make99() []int {
	piv := make([]int, 99)
	for k := range piv {
		piv[k] = []int{k, 99}[k%2]
	}
	return piv
}

// wrongPivots are none of as many rows.
func wrongPivots() [][]int {
	return [][]int{
		{1}, {-1}, {most}, {least},
		{1, 0}, {0, 0}, {0, 2}, {2, 1}, {-1, 1}, {1, 2}, {1, -1}, {most, 1}, {0, least},
		{0, 1, 1}, {0, 0, 2}, {0, 3, 2}, {3, 1, 2}, {0, 1, 3}, {2, 1, 0}, {1 << 32, 1, 2}, {0, 1, 2 - 1<<32},
	}
}

// wrongFactors are factors that aren't right.
func wrongFactors() []api.Factors {
	l := []api.Factors{
		{},
		{Piv: ints(0)},
		{Lu: view.Dense(1, 1)},
		{Lu: view.Dense(1, 1), Piv: ints(0, 1)},
		{Lu: view.Dense(2, 2), Piv: ints(1)},
		{Lu: view.Dense(2, 2), Piv: ints(0, 1, 2)},
		{Lu: view.Dense(0, 0), Piv: ints(0)},
		{Lu: view.Dense(2, 3), Piv: ints(0, 1)},
		{Lu: view.Dense(3, 2), Piv: ints(0, 1)},
		{Lu: view.Dense(3, 2), Piv: ints(0, 1, 2)},
		{Lu: view.Dense(0, 1)},
		{Lu: view.Dense(1, 0), Piv: ints(0)},
		{Lu: api.Mat{Rows: most, Ld: most}},
		{Lu: api.Mat{Cols: most, Ld: 1}},
		{Lu: mat(65, 65), Piv: make([]int, 65)},
		{Lu: mat(65, 65)},
	}
	for _, m := range wrong() {
		l = append(l, api.Factors{Lu: m}, api.Factors{Lu: m, Piv: ints(0)}, api.Factors{Lu: m, Piv: ints(0, 1)}, api.Factors{Lu: m, Piv: ints(1, 1)})
	}
	for _, piv := range wrongPivots() {
		l = append(l, made(laying{}, make([]float64, len(piv)*len(piv)), piv...))
	}
	return l
}

func TestNotRight(t *testing.T) {
	for i, f := range wrongFactors() {
		if lu.Right(f) {
			t.Error(i, "right", f)
		}
	}
}

func TestRightChangesNothing(t *testing.T) {
	for _, w := range layings() {
		f := made(w, floats(1, 2, 3, 4), 1, 1)
		lu.Right(f)
		isLaid(t, "Right", f.Lu, w, floats(1, 2, 3, 4))
		if !slices.Equal(f.Piv, ints(1, 1)) {
			t.Error(f.Piv)
		}
	}
}

// P16.2: Parts

// partsAre looks whether Parts answers what the document says of Lu's numbers l, row by row, and nothing changes.
func partsAre(t *testing.T, what string, l, wantL, wantU []float64, piv ...int) {
	t.Helper()
	n, was := len(piv), slices.Clone(piv)
	for _, w := range layings() {
		f := made(w, l, piv...)
		for range 2 {
			a, b, e := lu.Parts(f)
			errorIs(t, what, e, api.OK)
			isDense(t, what+", L", a, n, n, wantL)
			isDense(t, what+", U", b, n, n, wantU)
			for i := range a.D {
				a.D[i] = 55
			}
			isDense(t, what+", U beside L written over", b, n, n, wantU)
			for i := range b.D {
				b.D[i] = 44
			}
			isLaid(t, what, f.Lu, w, l)
		}
		if !slices.Equal(piv, was) {
			t.Errorf("%s: Piv is changed to %v", what, piv)
		}
	}
}

func TestParts(t *testing.T) {
	partsAre(t, "the document's", floats(4, 4, 0.25, 1), floats(1, 0, 0.25, 1), floats(4, 4, 0, 1), 1, 1)
	partsAre(t, "three", floats(1, 2, 3, 4, 5, 6, 7, 8, 9), floats(1, 0, 0, 4, 1, 0, 7, 8, 1), floats(1, 2, 3, 0, 5, 6, 0, 0, 9), 2, 1, 2)
	partsAre(t, "one", floats(-7), floats(1), floats(-7), 0)
	partsAre(t, "noughts on the diagonal", floats(0, nought, nought, nought), floats(1, 0, nought, 1), floats(0, nought, 0, nought), 0, 1)
	partsAre(t, "what isn't finite", floats(nan, inf, -inf, nan), floats(1, 0, -inf, 1), floats(nan, inf, 0, nan), 1, 1)
	partsAre(t, "the least and the greatest", floats(tiny, -top, top, -tiny), floats(1, 0, top, 1), floats(tiny, -top, 0, -tiny), 0, 1)
	partsAre(t, "no rows", nil, nil, nil)
}

func TestPartsOf64(t *testing.T) {
	l := anyFloats(4, 64*64, 100)
	low, up, piv := make([]float64, 64*64), make([]float64, 64*64), make([]int, 64)
	for k, x := range l {
		switch i, j := k/64, k%64; {
		case i > j:
			low[k] = x
		case i == j:
			low[k], up[k] = 1, x
			piv[i] = 63
		default:
			up[k] = x
		}
	}
	partsAre(t, "64", l, low, up, piv...)
}

func TestPartsErrors(t *testing.T) {
	fails := func(what string, f api.Factors, want api.Errno) {
		t.Helper()
		l, u, e := lu.Parts(f)
		errorIs(t, what, e, want)
		isZero(t, what, l)
		isZero(t, what, u)
	}
	for _, f := range wrongFactors() {
		fails("wrong", f, api.ErrArg)
	}
	piv := make([]int, 65)
	for k := range piv {
		piv[k] = k
	}
	fails("65", made(laying{1, 1, 1, guard}, slices.Repeat(floats(1), 65*65), piv...), api.ErrSize)
	fails("100", made(laying{}, make([]float64, 100*100), append(make99(), 99)...), api.ErrSize)
	piv[64] = 65
	fails("65, and wrong", made(laying{}, make([]float64, 65*65), piv...), api.ErrArg)
}

// P16.2: Order

// orderIs looks whether Order answers want, in new memory, and changes nothing.
func orderIs(t *testing.T, what string, want []int, piv ...int) {
	t.Helper()
	was := slices.Clone(piv)
	for range 2 {
		l, e := lu.Order(piv...)
		errorIs(t, what, e, api.OK)
		if !slices.Equal(l, want) {
			t.Errorf("%s: %v, not %v", what, l, want)
		}
		for i := range l {
			l[i] = 55
		}
		if !slices.Equal(piv, was) {
			t.Errorf("%s: piv is changed to %v", what, piv)
		}
	}
}

// byTake is the order in which move's Take takes as many rows as piv has: each has its own number, its place as a float.
func byTake(t *testing.T, piv []int) []int {
	t.Helper()
	m := api.Mat{D: make([]float64, len(piv)), Rows: len(piv), Cols: 1, Ld: max(1, len(piv))}
	for i := range m.D {
		m.D[i] = float64(i)
	}
	errorIs(t, "Take", move.Take(m, piv...), api.OK)
	order := make([]int, len(piv))
	for i, x := range m.D {
		order[i] = int(x)
	}
	return order
}

func TestOrder(t *testing.T) {
	orderIs(t, "none", nil)
	orderIs(t, "one", ints(0), 0)
	orderIs(t, "two", ints(0, 1), 0, 1)
	orderIs(t, "two that change places", ints(1, 0), 1, 1)
	orderIs(t, "three", ints(2, 1, 0), 2, 1, 2)
	orderIs(t, "round", ints(1, 2, 0), 1, 2, 2)
	orderIs(t, "round the other way", ints(2, 0, 1), 2, 2, 2)
	orderIs(t, "four", ints(2, 3, 0, 1), 2, 3, 2, 3)
	orderIs(t, "each by the last", ints(3, 0, 1, 2), 3, 3, 3, 3)
}

func TestOrderIsTakes(t *testing.T) {
	for a := range 4 {
		for b := 1; b < 4; b++ {
			for c := 2; c < 4; c++ {
				orderIs(t, "four", byTake(t, ints(a, b, c, 3)), a, b, c, 3)
			}
		}
	}
	for _, n := range []int{64, 65, 1000, 30000} {
		piv := make([]int, n)
		for k := range piv {
			piv[k] = k + k*k%(n-k)
		}
		orderIs(t, "long", byTake(t, piv), piv...)
	}
}

func TestOrderErrors(t *testing.T) {
	for _, piv := range wrongPivots() {
		was := slices.Clone(piv)
		l, e := lu.Order(piv...)
		errorIs(t, "wrong", e, api.ErrArg)
		if len(l) > 0 || !slices.Equal(piv, was) {
			t.Error(l, piv)
		}
	}
}

// P16.3

// isNear looks whether L and U of n rows and columns, row by row, are as near to them as the document says, exactly, and tells whether there are any that are finite.
func isNear(t *testing.T, what string, n int, l []float64) bool {
	t.Helper()
	f, _, e := lu.Factor(mat(n, n, l...))
	if e != api.OK || !move.Finite(f.Lu) {
		return false
	}
	low, up, e := lu.Parts(f)
	errorIs(t, what, e, api.OK)
	order, e := lu.Order(f.Piv...)
	errorIs(t, what, e, api.OK)
	if x := greatest(low); x > 1 {
		t.Errorf("%s: %v in L", what, x)
	}
	besides := room().Add(exactly(1), exactly(greatest(up)))
	besides.Mul(besides, exactly(0x1p-1060*float64(n)))
	for i := range n {
		for j := range n {
			far, sizes := misses(low, up, i, j, l[order[i]*n+j])
			sizes.Mul(sizes, exactly(0x1p-51*float64(n)))
			if far.Cmp(sizes.Add(sizes, besides)) > 0 {
				t.Errorf("%s: L times U is too far at %d %d", what, i, j)
			}
		}
	}
	return true
}

// greatest is the greatest of m's numbers without signs.
func greatest(m api.Mat) float64 {
	g := 0.0
	for _, x := range m.D {
		g = max(g, math.Abs(x))
	}
	return g
}

// misses is how far x is from L times U at row i and column j, and what |L| times |U| has there, both exactly.
func misses(low, up api.Mat, i, j int, x float64) (far, sizes *big.Float) {
	far, sizes = exactly(x), room()
	for k := range low.Rows {
		p := room().Mul(exactly(view.At(low, i, k)), exactly(view.At(up, k, j)))
		far.Sub(far, p)
		sizes.Add(sizes, p.Abs(p))
	}
	return far.Abs(far), sizes
}

func TestNear(t *testing.T) {
	finite := 0
	for n := range 9 {
		for _, wide := range []int{0, 1, 4, 30, 300, 500, 900, 1023} {
			for seed := range uint64(4) {
				if isNear(t, "many", n, anyFloats(seed*1000+uint64(n*10+wide), n*n, wide)) {
					finite++
				}
			}
		}
	}
	if finite < 150 {
		t.Error("too few are finite:", finite)
	}
}

func TestNearOfMuch(t *testing.T) {
	for _, n := range []int{16, 33, 64} {
		for _, l := range [][]float64{anyFloats(uint64(n), n*n, 1), anyFloats(uint64(n), n*n, 200), grows(n)} {
			if !isNear(t, "great", n, l) {
				t.Error("none of", n)
			}
		}
	}
}

// grows is a matrix of n rows whose last column doubles at each step.
func grows(n int) []float64 {
	l := make([]float64, n*n)
	for k := range l {
		switch i, j := k/n, k%n; {
		case j == n-1 || i == j:
			l[k] = 1
		case i > j:
			l[k] = -1 + 0x1p-53*float64(i)
		}
	}
	return l
}

func TestNearOfLeastNumbers(t *testing.T) {
	finite := 0
	for n := 1; n < 8; n++ {
		for _, k := range []int{-1074, -1073, -1070, -1050, -1022, -1000, -540} {
			l := anyFloats(uint64(n-k), n*n, 1)
			for i := range l {
				l[i] = math.Ldexp(l[i], k+3)
			}
			if isNear(t, "least", n, l) {
				finite++
			}
			for i := range l {
				if i%2 == 0 {
					l[i] = math.Ldexp(l[i], 1060)
				}
			}
			if isNear(t, "least and others", n, l) {
				finite++
			}
		}
	}
	if finite < 70 {
		t.Error("too few are finite:", finite)
	}
}

func TestNearOfGreatestNumbers(t *testing.T) {
	for i, l := range [][]float64{
		{top, top, top / 3, -top / 5},
		{top, 0, top, tiny},
		{tiny, top, top, tiny},
		{top, top, -tiny, top},
		{3 * tiny, top, 2 * tiny, tiny},
	} {
		if !isNear(t, "greatest", 2, l) {
			t.Error(i, "none")
		}
	}
}

func TestNearWhereItIsAlmostSingular(t *testing.T) {
	finite := 0
	for n := 2; n < 9; n++ {
		l := anyFloats(uint64(n), n*n, 2)
		for j := range n { // the last row is the sum of the others, but for rounding
			s := 0.0
			for i := range n - 1 {
				s += l[i*n+j]
			}
			l[(n-1)*n+j] = s
		}
		if isNear(t, "almost singular", n, l) {
			finite++
		}
	}
	if finite < 3 {
		t.Error("too few aren't singular:", finite)
	}
}
