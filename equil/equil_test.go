package equil_test

import (
	"math"
	"math/big"
	"slices"
	"testing"

	"straightedge/api"
	"straightedge/equil"
	"straightedge/num"
	"straightedge/view"
)

const (
	most  = math.MaxInt
	least = math.MinInt
	top   = math.MaxFloat64
	tiny  = math.SmallestNonzeroFloat64
	far   = 1 << 30 // where exponents end to count
	guard = -77.5   // what stands between the numbers, beside them and behind the list
)

var (
	inf    = math.Inf(1)
	nan    = math.NaN()
	nought = math.Copysign(0, -1)
)

// laying is a way to lay a matrix' numbers in a list: with an Ld that is more by that than it must be, and with that around them.
type laying struct {
	off, more, after int
	around           float64
}

func layings() []laying {
	return []laying{{0, 0, 0, guard}, {3, 0, 2, nan}, {0, 1, 0, inf}, {1, 2, 4, 0}}
}

// laid is a matrix of the numbers l, row by row, with w's around them everywhere else, and behind the list's length.
func laid(w laying, rows, cols int, l ...float64) api.Mat {
	ld, n := max(1, rows)+w.more, 0
	if rows > 0 && cols > 0 {
		n = (cols-1)*ld + rows
	}
	d := slices.Repeat([]float64{w.around}, w.off+n+w.after+5)
	m := api.Mat{D: d[:len(d)-5], Off: w.off, Rows: rows, Cols: cols, Ld: ld}
	for k, x := range l {
		m.D[w.off+k/cols+k%cols*ld] = x
	}
	return m
}

// mat is a matrix of the numbers l, row by row, and no more.
func mat(rows, cols int, l ...float64) api.Mat {
	return laid(laying{around: guard}, rows, cols, l...)
}

// isLaid looks whether m's list is just as laid makes it of w and l: its memory behind its length, too.
func isLaid(t *testing.T, what string, m api.Mat, w laying, l []float64) {
	t.Helper()
	want := laid(w, m.Rows, m.Cols, l...)
	if !slices.EqualFunc(m.D[:cap(m.D)], want.D[:cap(want.D)], num.Same) {
		t.Errorf("%s: m is changed to %v", what, m.D)
	}
}

func errorIs(t *testing.T, what string, got, want api.Errno) {
	t.Helper()
	if got != want {
		t.Errorf("%s: error %d, not %d", what, int(got), int(want))
	}
}

// wrong are matrices that aren't right, each by a thing of its own.
func wrong() []api.Mat {
	d := mat(1, 6, 1, 2, 3, 4, 5, 6).D
	return []api.Mat{
		{},
		{D: d},
		{D: d, Rows: 2, Cols: 2},
		{D: d, Rows: 2, Cols: 2, Ld: 1},
		{D: d, Rows: 2, Cols: 2, Ld: -2},
		{D: d, Rows: -1, Cols: 2, Ld: 2},
		{D: d, Rows: 2, Cols: -1, Ld: 2},
		{D: d, Rows: -1, Cols: -1, Ld: 2},
		{D: d, Off: -1, Rows: 2, Cols: 2, Ld: 2},
		{D: d, Off: 3, Rows: 2, Cols: 2, Ld: 2},
		{D: d, Rows: 2, Cols: 2, Ld: 5},
		{D: mat(1, 3, 1, 2, 3).D, Rows: 2, Cols: 2, Ld: 2},
		{D: d, Rows: 2, Cols: 5, Ld: 1 << 62},
		{D: d, Rows: 7, Cols: 1, Ld: 7},
		{D: d, Rows: most, Cols: most, Ld: most, Off: most},
		{D: d, Rows: least, Cols: least, Ld: least, Off: least},
		{D: d, Ld: 0, Rows: 0, Cols: 2},
		{D: d, Off: -1, Ld: 1},
		{Rows: 2, Cols: 2, Ld: 2},
		{D: []float64{nan, inf}, Rows: 2, Cols: 2, Ld: 2},
		{D: []float64{0, 0}, Rows: 2, Cols: 2, Ld: 2},
	}
}

// anyFloats are n floats that look like chance and are the same each time: their Exps are about from -wide to wide.
func anyFloats(seed uint64, n, wide int) []float64 {
	l := make([]float64, n)
	for i := range l {
		seed = seed*6364136223846793005 + 1442695040888963407
		x := float64(int64(seed)) / (1 << 63)
		seed = seed*6364136223846793005 + 1442695040888963407
		l[i] = math.Ldexp(x, int(seed>>33)%(2*wide+1)-wide)
	}
	return l
}

// anyMatrix are the numbers of a matrix, row by row, of which the last row and the last column have no 0, while a part of the others are.
func anyMatrix(seed uint64, rows, cols, wide int) []float64 {
	l := anyFloats(seed, rows*cols, wide)
	for k := range l {
		i, j := k/cols, k%cols
		switch {
		case i < rows-1 && j < cols-1 && (i+j*j+int(seed))%3 == 0:
			l[k] = []float64{0, nought}[k%2]
		case l[k] == 0: // anyFloats may go below the least number
			l[k] = tiny
		}
	}
	return l
}

// size is the k for which 2^k is at most |x|, and 2^(k+1) is more.
func size(x float64) int {
	_, k := math.Frexp(x)
	return k - 1
}

// exponents are what the document's words make of a matrix without empty rows or columns, row by row.
func exponents(rows, cols int, l []float64) (r, c []int) {
	for i := range rows {
		greatest := least
		for j := range cols {
			if x := l[i*cols+j]; x != 0 {
				greatest = max(greatest, size(x))
			}
		}
		r = append(r, -greatest)
	}
	for j := range cols {
		greatest := least
		for i := range rows {
			if x := l[i*cols+j]; x != 0 {
				greatest = max(greatest, size(x)+r[i])
			}
		}
		c = append(c, -greatest)
	}
	return r, c
}

// times2 is x times 2^k, exactly, then rounded once.
func times2(x float64, k int) float64 {
	if !num.Finite(x) {
		return x
	}
	y, _ := new(big.Float).SetMantExp(new(big.Float).SetFloat64(x), min(max(k, -5000), 5000)).Float64()
	return y
}

// scaled are l, row by row, times 2 to the rows' and the columns' exponents, which are all small.
func scaled(rows, cols []int, l []float64) []float64 {
	var s []float64
	for k, x := range l {
		s = append(s, times2(x, rows[k/len(cols)]+cols[k%len(cols)]))
	}
	return s
}

// answer is what Factors answers.
type answer struct {
	rows, cols []int
	at         int
	e          api.Errno
}

func factors(m api.Mat) answer {
	rows, cols, at, e := equil.Factors(m)
	return answer{rows, cols, at, e}
}

// answerIs looks whether Factors answers want of l, row by row, however it is laid, and twice, and changes nothing.
func answerIs(t *testing.T, what string, rows, cols int, l []float64, want answer) {
	t.Helper()
	for _, w := range layings() {
		m := laid(w, rows, cols, l...)
		for range 2 {
			got := factors(m)
			if !slices.Equal(got.rows, want.rows) || !slices.Equal(got.cols, want.cols) || got.at != want.at || got.e != want.e {
				t.Errorf("%s: %v, not %v", what, got, want)
			}
			isLaid(t, what, m, w, l)
		}
	}
}

// ints are a list of them.
func ints(l ...int) []int { return l }

// floats are a list of them.
func floats(l ...float64) []float64 { return l }

// P15.1: ordinary matrices

func TestFactors(t *testing.T) {
	answerIs(t, "the document's", 2, 2, floats(8, 0, 1, 2), answer{rows: ints(-3, -1), cols: ints(0, 0)})
	answerIs(t, "the first column is the smaller", 2, 2, floats(1, 8, 2, 16), answer{rows: ints(-3, -4), cols: ints(3, 0)})
	answerIs(t, "two and three", 2, 3, floats(3, -40, 0.25, 0.5, 7, 100), answer{rows: ints(-5, -6), cols: ints(4, 0, 0)})
	answerIs(t, "three and two", 3, 2, floats(1, 1, 0.3, 0.1, 0, -9), answer{rows: ints(0, 2, -3), cols: ints(0, 0)})
	answerIs(t, "one row", 1, 3, floats(1, 4, 0.125), answer{rows: ints(-2), cols: ints(2, 0, 5)})
	answerIs(t, "one column", 3, 1, floats(1, 4, 0.125), answer{rows: ints(0, -2, 3), cols: ints(0)})
	answerIs(t, "one number", 1, 1, floats(1000), answer{rows: ints(-9), cols: ints(0)})
	answerIs(t, "the whole's seventh", 2, 2, floats(times2(1, 400), times2(1, 400), times2(1, -400), times2(-1, -401)), answer{rows: ints(-400, 400), cols: ints(0, 0)})
}

func TestColumnsComeBehindRows(t *testing.T) {
	// Of themselves, the columns' greatest sizes are 9 and -10, and 10 and 1.
	answerIs(t, "a row that is great", 2, 2, floats(1000, 1e-3, 0.5, 1e-6), answer{rows: ints(-9, 1), cols: ints(0, 19)})
	answerIs(t, "another row has the greatest", 2, 2, floats(1, 1024, 0.5, 0.25), answer{rows: ints(-10, 1), cols: ints(0, 0)})
	answerIs(t, "and is far ahead", 3, 2, floats(4, 1024, 1, 0, 0.125, 2), answer{rows: ints(-10, 0, -1), cols: ints(0, 0)})
	answerIs(t, "not the least", 3, 2, floats(4, 16, 1, 32, 2, 1024), answer{rows: ints(-4, -5, -10), cols: ints(2, 0)})
}

func TestSizesOfFloats(t *testing.T) {
	for _, x := range []struct {
		x    float64
		size int
	}{
		{1, 0}, {math.Nextafter(1, 0), -1}, {math.Nextafter(2, 0), 0}, {2, 1}, {math.Nextafter(2, 3), 1}, {3, 1}, {0.75, -1},
		{top, 1023}, {times2(1, 1023), 1023}, {math.Nextafter(times2(1, 1023), 0), 1022},
		{times2(1, -1022), -1022}, {times2(1, -1022) - tiny, -1023}, {3 * tiny, -1073}, {2 * tiny, -1073}, {tiny, -1074},
	} {
		answerIs(t, "one", 1, 1, floats(x.x), answer{rows: ints(-x.size), cols: ints(0)})
		answerIs(t, "below 0", 1, 1, floats(-x.x), answer{rows: ints(-x.size), cols: ints(0)})
		answerIs(t, "beside the greatest", 1, 2, floats(-x.x, top), answer{rows: ints(-1023), cols: ints(1023-x.size, 0)})
		answerIs(t, "beside the least", 2, 1, floats(x.x, -tiny), answer{rows: ints(-x.size, 1074), cols: ints(0)})
	}
}

func TestFactorsFarApart(t *testing.T) {
	answerIs(t, "across", 1, 2, floats(top, tiny), answer{rows: ints(-1023), cols: ints(0, 2097)})
	answerIs(t, "down", 2, 1, floats(top, tiny), answer{rows: ints(-1023, 1074), cols: ints(0)})
	answerIs(t, "on the diagonal", 2, 2, floats(tiny, 0, 0, top), answer{rows: ints(1074, -1023), cols: ints(0, 0)})
	answerIs(t, "a column that is the least", 2, 2, floats(top, tiny, -top, -tiny), answer{rows: ints(-1023, -1023), cols: ints(0, 2097)})
}

func TestNoughtsHaveNoSize(t *testing.T) {
	for _, zero := range floats(0, nought) {
		answerIs(t, "in a row that is small", 2, 2, floats(zero, 0.125, 1, 1), answer{rows: ints(3, 0), cols: ints(0, 0)})
		answerIs(t, "behind, in a row that is small", 2, 2, floats(0.125, zero, 1, 1), answer{rows: ints(3, 0), cols: ints(0, 0)})
		answerIs(t, "in a column, in a row that was scaled up", 2, 2, floats(zero, 0.125, 1, 2), answer{rows: ints(3, -1), cols: ints(1, 0)})
		answerIs(t, "likewise, behind", 2, 2, floats(1, 2, zero, 0.125), answer{rows: ints(-1, 3), cols: ints(1, 0)})
		answerIs(t, "beside the least", 2, 2, floats(tiny, zero, zero, tiny), answer{rows: ints(1074, 1074), cols: ints(0, 0)})
	}
}

func TestFactorsOfManyNumbers(t *testing.T) {
	for rows := 1; rows < 8; rows++ {
		for cols := 1; cols < 8; cols++ {
			for _, wide := range []int{1, 4, 30, 300, 1000} {
				l := anyMatrix(uint64(rows*100+cols*10+wide), rows, cols, wide)
				r, c := exponents(rows, cols, l)
				answerIs(t, "many", rows, cols, l, answer{rows: r, cols: c})
			}
		}
	}
}

func TestFactorsOfMoreThan64(t *testing.T) {
	for _, s := range [][2]int{{64, 64}, {65, 2}, {2, 65}, {70, 80}, {1000, 1}, {1, 1000}} {
		l := anyMatrix(5, s[0], s[1], 40)
		r, c := exponents(s[0], s[1], l)
		answerIs(t, "many", s[0], s[1], l, answer{rows: r, cols: c})
	}
	l := slices.Repeat(floats(1), 70*3)
	l[66*3], l[66*3+1], l[66*3+2] = 0, nought, 0
	answerIs(t, "a row far down", 70, 3, l, answer{at: 67, e: api.ErrZero})
	l = slices.Repeat(floats(0, 1, 1), 70)
	answerIs(t, "a column behind many rows", 70, 3, l, answer{at: 71, e: api.ErrZero})
}

// P15.1: nothing there

func TestFactorsOfNoNumbers(t *testing.T) {
	answerIs(t, "nothing", 0, 0, nil, answer{})
	answerIs(t, "rows that are empty", 3, 0, nil, answer{at: 1, e: api.ErrZero})
	answerIs(t, "columns that are empty", 0, 3, nil, answer{at: 1, e: api.ErrZero})
	for _, x := range []struct {
		m    api.Mat
		want answer
	}{
		{api.Mat{Ld: 1}, answer{}},
		{api.Mat{Ld: most, Off: most}, answer{}},
		{api.Mat{Rows: most, Ld: most}, answer{at: 1, e: api.ErrZero}},
		{api.Mat{Rows: most, Ld: most, Off: most}, answer{at: 1, e: api.ErrZero}},
		{api.Mat{Cols: most, Ld: 1}, answer{at: 1, e: api.ErrZero}},
		{api.Mat{D: floats(nan), Cols: most, Ld: most, Off: most}, answer{at: 1, e: api.ErrZero}},
	} {
		if got := factors(x.m); len(got.rows)+len(got.cols) > 0 || got.at != x.want.at || got.e != x.want.e {
			t.Error(x.m, got)
		}
	}
}

// P15.1: errors

func TestFactorsOfWrongMatrices(t *testing.T) {
	for i, m := range wrong() {
		if got := factors(m); got.e != api.ErrArg || len(got.rows)+len(got.cols)+got.at > 0 {
			t.Error(i, got)
		}
	}
}

func TestFactorsOfWhatIsNotFinite(t *testing.T) {
	for _, x := range floats(nan, inf, -inf) {
		for k := range 6 {
			l := floats(1, 2, 3, 4, 5, 6)
			l[k] = x
			answerIs(t, "at each place", 2, 3, l, answer{e: api.ErrNan})
			l = make([]float64, 6)
			l[k] = x
			answerIs(t, "amid empty rows and columns", 2, 3, l, answer{e: api.ErrNan})
			answerIs(t, "likewise", 3, 2, l, answer{e: api.ErrNan})
		}
	}
}

func TestEmptyRows(t *testing.T) {
	for i := range 3 {
		l := floats(1, 2, 3, 4, 5, 6, 7, 8, 9)
		l[3*i], l[3*i+1], l[3*i+2] = 0, nought, 0
		answerIs(t, "one", 3, 3, l, answer{at: i + 1, e: api.ErrZero})
	}
	answerIs(t, "two", 3, 2, floats(1, 2, 0, 0, nought, nought), answer{at: 2, e: api.ErrZero})
	answerIs(t, "all", 3, 2, make([]float64, 6), answer{at: 1, e: api.ErrZero})
	answerIs(t, "one number", 1, 1, floats(nought), answer{at: 1, e: api.ErrZero})
	answerIs(t, "a column, too", 2, 2, floats(0, 1, 0, 0), answer{at: 2, e: api.ErrZero})
	answerIs(t, "the last row, the first column", 3, 2, floats(0, 1, 0, 1, 0, 0), answer{at: 3, e: api.ErrZero})
}

func TestEmptyColumns(t *testing.T) {
	for j := range 3 {
		l := floats(1, 2, 3, 4, 5, 6)
		l[j], l[j+3] = nought, 0
		answerIs(t, "one of three", 2, 3, l, answer{at: 2 + j + 1, e: api.ErrZero})
	}
	answerIs(t, "behind one row", 1, 3, floats(1, 0, 0), answer{at: 3, e: api.ErrZero})
	answerIs(t, "behind three rows", 3, 2, floats(1, 0, 2, nought, 3, 0), answer{at: 5, e: api.ErrZero})
	answerIs(t, "two", 2, 4, floats(1, 0, 2, 0, 1, 0, 2, 0), answer{at: 4, e: api.ErrZero})
	answerIs(t, "no column, though a row has but one number", 2, 2, floats(tiny, 1, 0, tiny), answer{rows: ints(0, 1074), cols: ints(1074, 0)})
}

func TestWhatFactorsAnswersIsNew(t *testing.T) {
	m := mat(2, 2, 1, 2, 4, 8)
	a, b := factors(m), factors(m)
	for k := range 2 {
		a.rows[k], a.cols[k] = 99, 98
	}
	a.rows, a.cols = append(a.rows, 97), append(a.cols, 96)
	if !slices.Equal(b.rows, ints(-1, -3)) || !slices.Equal(b.cols, ints(1, 0)) || !slices.Equal(a.rows, ints(99, 99, 97)) || !slices.Equal(a.cols, ints(98, 98, 96)) {
		t.Error(a, b)
	}
	if c := factors(m); !slices.Equal(c.rows, b.rows) || !slices.Equal(c.cols, b.cols) {
		t.Error(c)
	}
}

// P15.2: Scale

// scaleIs looks whether l, row by row, is scaled to want, however it is laid, in a new matrix, and nothing else changes.
func scaleIs(t *testing.T, what string, rows, cols []int, l []float64, want ...float64) {
	t.Helper()
	r, c := slices.Clone(rows), slices.Clone(cols)
	for _, w := range layings() {
		m := laid(w, len(rows), len(cols), l...)
		s, e := equil.Scale(m, rows, cols)
		errorIs(t, what, e, api.OK)
		d := view.Dense(len(rows), len(cols), want...)
		if s.Off != 0 || s.Rows != d.Rows || s.Cols != d.Cols || s.Ld != d.Ld || !slices.EqualFunc(s.D, d.D, num.Same) {
			t.Errorf("%s: %v, not %v", what, s, d)
		}
		isLaid(t, what, m, w, l)
		for k := range s.D {
			s.D[k] = 55
		}
		isLaid(t, what+", written over", m, w, l)
		if !slices.Equal(rows, r) || !slices.Equal(cols, c) {
			t.Errorf("%s: the exponents are changed to %v and %v", what, rows, cols)
		}
	}
}

func TestScale(t *testing.T) {
	scaleIs(t, "the document's", ints(-3, -1), ints(0, 0), floats(8, 0, 1, 2), 1, 0, 0.5, 1)
	scaleIs(t, "rows and columns", ints(-1, 3), ints(2, 0, -2), floats(1, 2, 3, 4, 5, 6), 2, 1, 0.375, 128, 40, 12)
	scaleIs(t, "none", ints(0, 0), ints(0), floats(0.1, -0.2), 0.1, -0.2)
	scaleIs(t, "one row", ints(1), ints(1, -1), floats(3, -3), 12, -3)
	scaleIs(t, "nothing", nil, nil, nil)
	scaleIs(t, "no rows", nil, ints(1, 2), nil)
	scaleIs(t, "no columns", ints(1, 2), nil, nil)
}

func TestScaleIsRoundedOnce(t *testing.T) {
	scaleIs(t, "ties to even", ints(-1), ints(0, 0, 0, 0), floats(tiny, 3*tiny, -5*tiny, 7*tiny), 0, 2*tiny, -2*tiny, 4*tiny)
	scaleIs(t, "not by the row, then by the column", ints(-1), ints(1), floats(3*tiny), 3*tiny)
	scaleIs(t, "nor up and down", ints(2000), ints(-2000, -2001), floats(1, -3), 1, -1.5)
	scaleIs(t, "to the least ones", ints(-1074), ints(0, -1, -2), floats(1, -1, 3), tiny, nought, tiny)
	scaleIs(t, "beyond the greatest", ints(1000), ints(24, 23), floats(-1, 1), -inf, times2(1, 1023))
	scaleIs(t, "infinities, NaNs and noughts", ints(5), ints(-2000, 3, 0, 7, 2000), floats(inf, -inf, nan, nought, 0), inf, -inf, nan, nought, 0)
}

func TestScaleByFarExponents(t *testing.T) {
	scaleIs(t, "up", ints(far), ints(0, far, most), floats(1, -1, 0), inf, -inf, 0)
	scaleIs(t, "down", ints(-far), ints(0, -far, least), floats(1, -1, nought), 0, nought, nought)
	scaleIs(t, "the sum goes beyond an int", ints(most, least), ints(1, -1), floats(1, 1, 1, 1), inf, inf, 0, 0)
	scaleIs(t, "both beyond", ints(most, least), ints(most, least), floats(1, 3, 5, 1), inf, 3, 5, 0)
	scaleIs(t, "each counts as 2^30", ints(far+9, -far-9), ints(far+9, -far-9), floats(1, 3, 5, 1), inf, 3, 5, 0)
	scaleIs(t, "so that less is left", ints(most), ints(-far+1, -far, -far-1), floats(1, 1, 1), 2, 1, 1)
}

func TestScaleOfManyNumbers(t *testing.T) {
	for rows := 1; rows < 7; rows++ {
		for cols := 1; cols < 7; cols++ {
			l := anyMatrix(uint64(rows*10+cols), rows, cols, 900)
			r, c := make([]int, rows), make([]int, cols)
			for i := range r {
				r[i] = (i*i*577+rows)%2200 - 1100
			}
			for j := range c {
				c[j] = (j*739+cols)%2000 - 1000
			}
			scaleIs(t, "many", r, c, l, scaled(r, c, l)...)
		}
	}
	l := anyMatrix(3, 64, 64, 100)
	r, c := exponents(64, 64, l)
	scaleIs(t, "64 and 64", r, c, l, scaled(r, c, l)...)
}

func TestScaleErrors(t *testing.T) {
	fails := func(what string, m api.Mat, rows, cols []int, want api.Errno) {
		t.Helper()
		s, e := equil.Scale(m, rows, cols)
		errorIs(t, what, e, want)
		if len(s.D) > 0 || s.Off != 0 || s.Rows != 0 || s.Cols != 0 || s.Ld != 0 {
			t.Errorf("%s: %v beside an error", what, s)
		}
		if equil.Exact(m, rows, cols) {
			t.Errorf("%s: exact", what)
		}
	}
	for _, m := range wrong() {
		fails("wrong", m, ints(0, 0), ints(0, 0), api.ErrArg)
		fails("wrong, and of no length", m, nil, nil, api.ErrArg)
	}
	m := mat(2, 3, 1, 2, 3, 4, 5, 6)
	fails("too few rows", m, ints(0), ints(0, 0, 0), api.ErrSize)
	fails("too many rows", m, ints(0, 0, 0), ints(0, 0, 0), api.ErrSize)
	fails("too few columns", m, ints(0, 0), ints(0, 0), api.ErrSize)
	fails("too many columns", m, ints(0, 0), ints(0, 0, 0, 0), api.ErrSize)
	fails("turned about", m, ints(0, 0, 0), ints(0, 0), api.ErrSize)
	fails("none", m, nil, nil, api.ErrSize)
	fails("nothing, with a row", mat(0, 0), ints(0), nil, api.ErrSize)
	fails("nothing, with a column", mat(0, 0), nil, ints(0), api.ErrSize)
	fails("65 rows", mat(65, 1, slices.Repeat(floats(1), 65)...), make([]int, 65), make([]int, 1), api.ErrSize)
	fails("65 columns", mat(1, 65, slices.Repeat(floats(1), 65)...), make([]int, 1), make([]int, 65), api.ErrSize)
	fails("65 rows that are empty", mat(65, 0), make([]int, 65), nil, api.ErrSize)
	fails("65 columns that are empty", mat(0, 65), nil, make([]int, 65), api.ErrSize)
	fails("very many rows", api.Mat{Rows: most, Ld: most}, nil, nil, api.ErrSize)
	fails("very many columns", api.Mat{Cols: most, Ld: 1}, nil, nil, api.ErrSize)
	isLaid(t, "beside an error", m, laying{around: guard}, floats(1, 2, 3, 4, 5, 6))
}

// P15.2: Exact

// exactIs looks whether Exact answers want of l, row by row, however it is laid, and changes nothing.
func exactIs(t *testing.T, what string, want bool, rows, cols []int, l ...float64) {
	t.Helper()
	r, c := slices.Clone(rows), slices.Clone(cols)
	for _, w := range layings() {
		m := laid(w, len(rows), len(cols), l...)
		if equil.Exact(m, rows, cols) != want {
			t.Errorf("%s: not %v", what, want)
		}
		isLaid(t, what, m, w, l)
		if !slices.Equal(rows, r) || !slices.Equal(cols, c) {
			t.Errorf("%s: the exponents are changed to %v and %v", what, rows, cols)
		}
	}
}

func TestExact(t *testing.T) {
	exactIs(t, "the document's", true, ints(-3, -1), ints(0, 0), 8, 0, 1, 2)
	exactIs(t, "rows and columns", true, ints(-900, 30), ints(500, 0, -90), 0.1, -0.2, 1e10, 3, 1e-10, 7)
	exactIs(t, "nothing", true, nil, nil)
	exactIs(t, "no rows", true, nil, ints(1, most))
	exactIs(t, "no columns", true, ints(least, 1), nil)
}

func TestExactWhereBitsAreLost(t *testing.T) {
	exactIs(t, "the last one", false, ints(-1), ints(0), 3*tiny)
	exactIs(t, "not the last one", true, ints(-1), ints(0), -6*tiny)
	exactIs(t, "down and up again", true, ints(-1), ints(1), 3*tiny)
	exactIs(t, "all", false, ints(-1), ints(0), tiny)
	exactIs(t, "a power of 2 goes farther", true, ints(-1000), ints(-74), 1)
	exactIs(t, "than what has more bits", false, ints(-1000), ints(-74), 1.5)
	exactIs(t, "too far", false, ints(-1000), ints(-75), 1)
	exactIs(t, "rounded to the next power", false, ints(-2046), ints(0), top)
	for i := range 2 {
		for j := range 3 {
			l := slices.Repeat(floats(1), 6)
			l[3*i+j] = 3 * tiny
			rows, cols := ints(0, 0), ints(0, 0, 0)
			rows[i]--
			exactIs(t, "by a row", false, rows, cols, l...)
			rows[i], cols[j] = 0, -1
			exactIs(t, "by a column", false, rows, cols, l...)
			rows[i] = 1
			exactIs(t, "by a row and a column", true, rows, cols, l...)
		}
	}
}

func TestExactWhereNumbersOverflow(t *testing.T) {
	exactIs(t, "just", false, ints(1), ints(0), top)
	exactIs(t, "by the column", false, ints(0), ints(1), -top)
	exactIs(t, "not", true, ints(1), ints(-1), top)
	exactIs(t, "from the least to the greatest", true, ints(1024), ints(1073), tiny)
	exactIs(t, "and beyond", false, ints(1024), ints(1074), tiny)
	exactIs(t, "one of many", false, ints(0, 2), ints(0, 0), 1, 2, 3, top)
}

func TestExactOfWhatIsNotFinite(t *testing.T) {
	for _, x := range floats(nan, inf, -inf) {
		for k := range 4 {
			l := floats(1, 2, 3, 4)
			l[k] = x
			exactIs(t, "at each place", false, ints(0, 0), ints(0, 0), l...)
			exactIs(t, "far down", false, ints(-50, 0), ints(0, -50), l...)
		}
	}
}

func TestExactOfNoughts(t *testing.T) {
	for _, k := range ints(0, 1, -1, 3000, -3000, far, -far, 1<<40, -1<<40, most, least, least+1) {
		exactIs(t, "by any exponents", true, ints(k, 0), ints(0, k), 0, nought, nought, 0)
	}
}

func TestExactByFarExponents(t *testing.T) {
	for _, k := range ints(3000, far, 1<<40, most) {
		exactIs(t, "up", false, ints(k), ints(0), 1)
		exactIs(t, "up twice", false, ints(k), ints(k), 1)
		exactIs(t, "down", false, ints(0), ints(-k), 1)
		exactIs(t, "down twice", false, ints(-k), ints(-k), 1)
		exactIs(t, "up and down", true, ints(k, -k), ints(-k), 0.1, 0)
		exactIs(t, "down and up", true, ints(-k), ints(k), -0.1)
	}
	exactIs(t, "down twice, round an int", false, ints(least), ints(least), 1)
	exactIs(t, "up twice, round an int", false, ints(most), ints(most), 1)
	// Scale counts both as 2^30 and leaves the number as it is, so that it isn't times 2 to the exponents that were asked for.
	exactIs(t, "both beyond, to one more", false, ints(far+2), ints(-far-1), 1)
	exactIs(t, "both beyond, to one less", false, ints(least), ints(most), 1)
}

func TestExactOfManyNumbers(t *testing.T) {
	answers := map[bool]int{}
	for n := 1; n < 7; n++ {
		for _, wide := range []int{4, 300, 1000} {
			l := anyMatrix(uint64(n+wide), n, n+1, wide)
			r, c := exponents(n, n+1, l)
			back := scaled(minus(r), minus(c), scaled(r, c, l))
			want := slices.EqualFunc(back, l, num.Same)
			exactIs(t, "many", want, r, c, l...)
			answers[want]++
		}
	}
	if answers[true] < 6 || answers[false] < 3 {
		t.Error("too few of a kind", answers)
	}
}

// minus are l, each with the other sign.
func minus(l []int) []int {
	n := slices.Clone(l)
	for i := range n {
		n[i] = -n[i]
	}
	return n
}

// P15.3

// likeSizes looks whether l, row by row, comes to like sizes by its own exponents.
func likeSizes(t *testing.T, what string, rows, cols int, l []float64) {
	t.Helper()
	m := mat(rows, cols, l...)
	f := factors(m)
	errorIs(t, what, f.e, api.OK)
	s, e := equil.Scale(m, f.rows, f.cols)
	errorIs(t, what, e, api.OK)
	for j := range cols {
		greatest := 0.0
		for _, x := range view.Numbers(view.Part(s, 0, j, rows, 1)) {
			greatest = max(greatest, math.Abs(x))
		}
		if !(greatest >= 1 && greatest < 2) {
			t.Errorf("%s: the greatest of column %d of %v is %v", what, j, l, greatest)
		}
	}
}

func TestLikeSizes(t *testing.T) {
	likeSizes(t, "the document's", 2, 2, floats(8, 0, 1, 2))
	likeSizes(t, "just below a power of 2", 2, 2, floats(math.Nextafter(2, 0), math.Nextafter(1, 0), -math.Nextafter(8, 0), 1))
	likeSizes(t, "the least", 2, 2, floats(tiny, 0, nought, -3*tiny))
	likeSizes(t, "the greatest", 2, 2, floats(top, -top, 0, top))
	likeSizes(t, "far apart", 2, 2, floats(tiny, top, -3*tiny, -top))
	likeSizes(t, "far apart, down", 2, 2, floats(tiny, 5*tiny, top, top))
	for rows := 1; rows < 9; rows++ {
		for cols := 1; cols < 9; cols++ {
			for _, wide := range []int{0, 1, 10, 100, 1000, 1023} {
				likeSizes(t, "many", rows, cols, anyMatrix(uint64(rows+10*cols+100*wide), rows, cols, wide))
			}
		}
	}
	likeSizes(t, "64 and 64", 64, 64, anyMatrix(9, 64, 64, 1000))
}
