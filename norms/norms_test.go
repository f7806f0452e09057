package norms_test

import (
	"math"
	"math/big"
	"slices"
	"testing"

	"straightedge/api"
	"straightedge/ger"
	"straightedge/norms"
	"straightedge/num"
	"straightedge/view"
)

const (
	most  = math.MaxInt
	least = math.MinInt
	top   = math.MaxFloat64
	tiny  = math.SmallestNonzeroFloat64
)

var (
	inf    = math.Inf(1)
	nan    = math.NaN()
	nought = math.Copysign(0, -1)
)

// two is 2^k.
func two(k int) float64 { return math.Ldexp(1, k) }

// odd are numbers of all kinds.
func odd() []float64 {
	return []float64{
		0, nought, tiny, -3 * tiny, two(-1022), -two(-600), 0.1, -0.5, 1, -1, 1 + two(-52), 1 + two(-30), -1 - two(-29),
		3, -7, 1e16, two(600), -two(970), top, -top, inf, -inf, nan,
	}
}

// laying is a way to lay a matrix in a list: with an Ld that is more than it must be.
type laying struct{ off, more, after int }

func layings() []laying {
	return []laying{{0, 0, 0}, {3, 0, 2}, {0, 1, 0}, {1, 2, 4}}
}

// table is a matrix of the numbers l, row by row; everywhere else, and behind its list, stands what nobody may read: beside.
func table(w laying, beside float64, rows, cols int, l ...float64) api.Mat {
	ld, n := max(1, rows)+w.more, 0
	if rows > 0 && cols > 0 {
		n = (cols-1)*ld + rows
	}
	d := slices.Repeat([]float64{beside}, w.off+n+w.after+5)
	m := api.Mat{D: d[:len(d)-5], Off: w.off, Rows: rows, Cols: cols, Ld: ld}
	for k, x := range l {
		m.D[w.off+k/cols+k%cols*ld] = x
	}
	return m
}

// wrong are matrices that aren't right, each by a thing of its own.
func wrong() []api.Mat {
	d := []float64{1, 2, 3, 4, 5, 6}
	return []api.Mat{
		{},
		{D: d},
		{D: d, Rows: 2, Cols: 2},
		{D: d, Rows: 2, Cols: 2, Ld: 1},
		{D: d, Rows: 2, Cols: 2, Ld: -2},
		{D: d, Rows: -1, Cols: 2, Ld: 2},
		{D: d, Rows: 2, Cols: -1, Ld: 2},
		{D: d, Rows: -1, Cols: 0, Ld: 2},
		{D: d, Rows: 0, Cols: -1, Ld: 2},
		{D: d, Rows: -1, Cols: -1, Ld: 2},
		{D: d, Off: -1, Rows: 2, Cols: 2, Ld: 2},
		{D: d, Off: 3, Rows: 2, Cols: 2, Ld: 2},
		{D: d, Rows: 2, Cols: 2, Ld: 5},
		{D: d, Rows: 2, Cols: 4, Ld: 2},
		{D: d, Rows: 3, Cols: 3, Ld: 3},
		{D: d[:3], Rows: 2, Cols: 2, Ld: 2}, // the list has room for the last number, but ends ahead of it
		{D: d, Rows: 2, Cols: 5, Ld: 1 << 62},
		{D: d, Rows: most, Cols: most, Ld: most, Off: most},
		{D: d, Rows: least, Cols: least, Ld: least, Off: least},
		{D: d, Rows: 0, Cols: 2, Ld: 0},
		{D: d, Off: -1, Ld: 1},
		{D: d, Rows: 1, Cols: 0, Ld: 0},
		{Rows: 1, Cols: 1, Ld: 1},
	}
}

// anyFloats are n floats that look like chance and are the same each time: their Exps are about from -wide to wide.
func anyFloats(seed uint64, n, wide int) []float64 {
	l := make([]float64, n)
	for i := range l {
		seed = seed*6364136223846793005 + 1442695040888963407
		x := float64(int64(seed)) / (1 << 63)
		seed = seed*6364136223846793005 + 1442695040888963407
		l[i] = math.Ldexp(x, int(seed>>33)%(2*wide+1)-wide)
	}
	return l
}

// exactly is x, with room for all digits of a sum of floats.
func exactly(x float64) *big.Float { return new(big.Float).SetPrec(5000).SetFloat64(x) }

// plus is what IEEE 754 makes of two numbers that have no sign: exactly, then rounded once.
func plus(x, y float64) float64 {
	if !num.Finite(x, y) {
		return x + y
	}
	s, _ := new(big.Float).SetPrec(5000).Add(exactly(x), exactly(y)).Float64()
	return s
}

// size is x without its sign.
func size(x float64) float64 { return math.Float64frombits(math.Float64bits(x) &^ (1 << 63)) }

// total is the sum of l's numbers without their signs, from the left.
func total(l []float64) float64 {
	s := 0.0
	for _, x := range l {
		s = plus(s, size(x))
	}
	return s
}

// peak is the greatest of l's numbers without their signs; NaN, if one is.
func peak(l []float64) float64 {
	if slices.ContainsFunc(l, math.IsNaN) {
		return nan
	}
	sizes := []float64{0}
	for _, x := range l {
		sizes = append(sizes, size(x))
	}
	slices.Sort(sizes)
	return sizes[len(sizes)-1]
}

// grid is a matrix, row by row.
type grid struct {
	rows, cols int
	l          []float64
}

// turned is g with its rows for its columns.
func (g grid) turned() grid {
	l := make([]float64, 0, len(g.l))
	for j := range g.cols {
		for i := range g.rows {
			l = append(l, g.l[i*g.cols+j])
		}
	}
	return grid{g.cols, g.rows, l}
}

// inf is what the document's words make of Inf of g.
func (g grid) inf() float64 {
	var all []float64
	for i := range g.rows {
		all = append(all, total(g.l[i*g.cols:(i+1)*g.cols]))
	}
	return peak(all)
}

// one is what they make of One of g: g is gone through column by column from the top.
func (g grid) one() float64 { return g.turned().inf() }

// floatIs looks whether a call came to a number, and to no error.
func floatIs(t *testing.T, what string, got float64, e api.Errno, want float64) {
	t.Helper()
	if !num.Same(got, want) || e != api.OK {
		t.Errorf("%s: %v (%s), error %d; not %v (%s)", what, got, num.Hex(got), int(e), want, num.Hex(want))
	}
}

// tell looks what the three calls tell of m.
func tell(t *testing.T, what string, m api.Mat, one, inf, most float64) {
	t.Helper()
	x, e := norms.One(m)
	floatIs(t, what+": One", x, e, one)
	x, e = norms.Inf(m)
	floatIs(t, what+": Inf", x, e, inf)
	x, e = norms.Max(m)
	floatIs(t, what+": Max", x, e, most)
}

// laidAre looks whether One, Inf and Max of g are those, however g is laid and whatever stands beside it, and whether nothing is changed.
func laidAre(t *testing.T, what string, g grid, one, inf, most float64) {
	t.Helper()
	for _, w := range layings() {
		for _, beside := range []float64{nan, -top} {
			m, was := table(w, beside, g.rows, g.cols, g.l...), table(w, beside, g.rows, g.cols, g.l...)
			tell(t, what, m, one, inf, most)
			if !slices.EqualFunc(m.D[:cap(m.D)], was.D[:cap(was.D)], num.Same) {
				t.Errorf("%s: changed", what)
			}
		}
	}
}

// are looks whether One, Inf and Max of the matrix of l are those, and, of it turned about, Inf, One and Max.
func are(t *testing.T, what string, rows, cols int, l []float64, one, inf, most float64) {
	t.Helper()
	g := grid{rows, cols, l}
	laidAre(t, what, g, one, inf, most)
	laidAre(t, what+", turned about", g.turned(), inf, one, most)
}

// asTold looks whether all of the matrix of l is as the document's words make it.
func asTold(t *testing.T, what string, rows, cols int, l []float64) {
	t.Helper()
	g := grid{rows, cols, l}
	are(t, what, rows, cols, l, g.one(), g.inf(), peak(l))
}

// P10.1: ordinary matrices

func TestNorms(t *testing.T) {
	are(t, "the document's", 2, 2, []float64{1, -2, 3, 4}, 6, 7, 4)
	are(t, "two rows, three columns", 2, 3, []float64{1, -2, 3, -4, 5, -6}, 9, 15, 6)
	are(t, "one number", 1, 1, []float64{-2.5}, 2.5, 2.5, 2.5)
	are(t, "one row", 1, 4, []float64{1, -5, 2, 3}, 5, 11, 5)
	are(t, "all below 0", 2, 2, []float64{-1, -2, -3, -4}, 6, 7, 4)
	are(t, "signs that would cancel", 2, 2, []float64{3, -3, -3, 3}, 6, 6, 3)
	are(t, "a diagonal", 3, 3, []float64{2, 0, 0, 0, -7, 0, 0, 0, 3}, 7, 7, 7)
	are(t, "the greatest number not in the greatest row or column", 3, 3, []float64{9, 0, 0, 0, -5, 5, 0, 5, -5}, 10, 10, 9)
	are(t, "the least sums aren't told", 2, 2, []float64{8, 1, 0, 0.5}, 8, 9, 8)
	tell(t, "by view's Dense", view.Dense(2, 2, 1, -2, 3, 4), 6, 7, 4)
}

func TestTheGreatestAtEachPlace(t *testing.T) {
	for k := range 12 {
		for _, x := range []float64{100, -100} {
			l := slices.Repeat([]float64{1, -1}, 6)
			l[k] = x
			are(t, "the greatest at each place", 3, 4, l, 102, 103, 100)
		}
	}
}

func TestNormsWithinAMatrix(t *testing.T) {
	m := view.Dense(3, 4,
		90, -80, 70, 60,
		50, 1, -2, 40,
		30, 3, 4, -20)
	tell(t, "a part", view.Part(m, 1, 1, 2, 2), 6, 7, 4)
	tell(t, "a row", view.Part(m, 1, 0, 1, 4), 50, 93, 50)
	tell(t, "a column", view.Part(m, 0, 1, 3, 1), 84, 80, 80)
	tell(t, "a number", view.Part(m, 2, 3, 1, 1), 20, 20, 20)
	tell(t, "a part without numbers", view.Part(m, 1, 1, 2, 0), 0, 0, 0)
	tell(t, "all of it", m, 170, 300, 90)
	tell(t, "a number with an Ld of any size", api.Mat{D: m.D, Off: 4, Rows: 1, Cols: 1, Ld: most}, 1, 1, 1)
	tell(t, "a list that is longer", api.Mat{D: []float64{1, 2, 3, 4, 99, 99}, Rows: 2, Cols: 2, Ld: 2}, 7, 6, 4)
}

func TestNormsOfMatricesOfAnySize(t *testing.T) {
	for _, x := range [][2]int{{1, 64}, {64, 64}, {1, 65}, {65, 65}, {3, 200}, {1, 2000}} {
		asTold(t, "a great matrix", x[0], x[1], anyFloats(uint64(x[1]), x[0]*x[1], 3))
	}
	ones := slices.Repeat([]float64{1}, 70*3)
	are(t, "ones", 70, 3, ones, 70, 3, 1)
}

// P10.1: matrices without numbers

func TestNormsOfNoNumbers(t *testing.T) {
	are(t, "no columns", 3, 0, nil, 0, 0, 0)
	are(t, "nothing", 0, 0, nil, 0, 0, 0)
	d := []float64{5, nan}
	for _, m := range []api.Mat{
		{Ld: 1},
		{D: d, Ld: 1},
		{D: d, Off: most, Ld: most},
		{Cols: most, Ld: 1},
		{Cols: most, Ld: most, Off: most},
		{D: d, Cols: most, Ld: 1},
		{Rows: most, Ld: most},
		{D: d, Rows: most, Ld: most, Off: most},
		{D: d, Rows: 2, Ld: 2, Off: 7},
		{D: d, Cols: 2, Ld: 2},
	} {
		tell(t, "no numbers", m, 0, 0, 0)
	}
}

// P10.1: order and rounding

func TestSumsAreInTheirOrder(t *testing.T) {
	a := two(53)
	are(t, "ones behind", 1, 3, []float64{a, 1, 1}, a, a, a)
	are(t, "ones ahead", 1, 3, []float64{1, 1, a}, a, a+2, a)
	are(t, "ones around", 1, 3, []float64{1, -a, 1}, a, a, a)
	are(t, "ones behind, not in pairs", 1, 5, []float64{-a, 1, 1, 1, 1}, a, a, a)
	are(t, "ones ahead, not in pairs", 1, 5, []float64{-1, 1, -1, 1, a}, a, a+4, a)
	are(t, "two sums side by side would keep them", 1, 4, []float64{a, 1, 0, 1}, a, a, a)
	are(t, "1e16", 1, 3, []float64{1e16, 1, 1}, 1e16, 1e16, 1e16)
	are(t, "tenths", 1, 3, []float64{0.1, -0.2, 0.3}, 0.3, 0.6000000000000001, 0.3)
	are(t, "tenths turned about", 1, 3, []float64{-0.3, 0.2, -0.1}, 0.3, 0.6, 0.3)
	are(t, "each row in its own order", 2, 3, []float64{a, 1, 1, 1, 1, a}, a+1, a+2, a)
	are(t, "each column in its own order", 3, 2, []float64{a, 1, 1, 1, 1, a}, a+2, a+1, a)
}

func TestSumsAreRoundedOneByOne(t *testing.T) {
	u := two(-53)
	are(t, "down, to even", 1, 2, []float64{1, u}, 1, 1, 1)
	are(t, "up, to even", 1, 2, []float64{-1 - 2*u, -u}, 1+2*u, 1+4*u, 1+2*u)
	are(t, "each by itself", 1, 4, []float64{1, -u, u, -u}, 1, 1, 1)
	are(t, "more than the half", 1, 2, []float64{1, u + two(-105)}, 1, 1+2*u, 1)
	are(t, "many tenths", 1, 10, slices.Repeat([]float64{-0.1}, 10), 0.1, 0.9999999999999999, 0.1)
	are(t, "subnormal", 1, 3, []float64{tiny, -3 * tiny, 2 * tiny}, 3*tiny, 6*tiny, 3*tiny)
	are(t, "up to a normal number", 1, 2, []float64{tiny - two(-1022), tiny}, two(-1022)-tiny, two(-1022), two(-1022)-tiny)
}

// P10.1: noughts, overflow, infinities, NaNs

func TestNormsOfNoughts(t *testing.T) {
	are(t, "0", 1, 1, []float64{0}, 0, 0, 0)
	are(t, "-0", 1, 1, []float64{nought}, 0, 0, 0)
	are(t, "noughts", 2, 2, []float64{nought, 0, nought, nought}, 0, 0, 0)
	are(t, "a least number", 2, 2, []float64{nought, 0, -tiny, nought}, tiny, tiny, tiny)
}

func TestNormsBeyondTheGreatestNumber(t *testing.T) {
	are(t, "a sum", 1, 2, []float64{top, -top}, top, inf, top)
	are(t, "by a half of the last bit", 1, 2, []float64{-top, two(970)}, top, inf, top)
	are(t, "just not", 1, 2, []float64{-top, two(969)}, top, top, top)
	are(t, "in one row", 2, 2, []float64{1, 2, top, top}, top, inf, top)
}

func TestNormsOfInfinities(t *testing.T) {
	are(t, "one", 1, 2, []float64{inf, 1}, inf, inf, inf)
	are(t, "one below 0", 2, 2, []float64{1, -inf, 3, 4}, inf, inf, inf)
	are(t, "both signs", 1, 2, []float64{inf, -inf}, inf, inf, inf)
	are(t, "both signs in one column and row", 2, 2, []float64{inf, -inf, -inf, 0}, inf, inf, inf)
}

func TestNormsWithANaNAtEachPlace(t *testing.T) {
	for k := range 6 {
		for _, n := range []float64{nan, math.Copysign(nan, -1), math.Copysign(nan, 1)} {
			l := []float64{1, -2, 3, -4, 5, -6}
			l[k] = n
			are(t, "a NaN", 2, 3, l, nan, nan, nan)
			for i := range l {
				if i != k {
					l[i] = inf
				}
			}
			are(t, "a NaN among infinities", 2, 3, l, nan, nan, nan)
		}
	}
	are(t, "a NaN alone", 1, 1, []float64{nan}, nan, nan, nan)
	are(t, "a greater column behind", 2, 2, []float64{nan, 9, 1, 9}, nan, nan, nan)
	are(t, "a greater column ahead", 2, 2, []float64{9, nan, 9, 1}, nan, nan, nan)
}

// P10.1: many matrices

func TestNormsOfAllKinds(t *testing.T) {
	for _, x := range odd() {
		for _, y := range odd() {
			for _, z := range []float64{0, -1, tiny, top, -inf, nan} {
				asTold(t, "all kinds", 2, 2, []float64{x, y, z, 1})
			}
		}
	}
}

func TestNormsOfManyMatrices(t *testing.T) {
	for seed := range uint64(8) {
		for rows := 1; rows < 8; rows++ {
			for cols := 1; cols < 8; cols++ {
				asTold(t, "many matrices", rows, cols, anyFloats(seed+1, rows*cols, []int{1, 4, 30, 500}[seed%4]))
			}
		}
	}
}

// P10.1: what isn't right

func TestErrorsOfNorms(t *testing.T) {
	calls := []func(api.Mat) (float64, api.Errno){norms.One, norms.Inf, norms.Max}
	for _, m := range wrong() {
		was := slices.Clone(m.D)
		for k, call := range calls {
			if x, e := call(m); e != api.ErrArg || !num.Same(x, 0) {
				t.Errorf("call %d of %v: %v, error %d", k, m, x, int(e))
			}
		}
		if !slices.Equal(m.D, was) {
			t.Errorf("changed: %v", m)
		}
	}
}

// P10.1: Vector

// vectorIs looks whether Vector of l is that, and whether nothing is changed, or read behind the list.
func vectorIs(t *testing.T, what string, l []float64, one, most float64) {
	t.Helper()
	d := append(slices.Clone(l), nan, nan)
	a, b := norms.Vector(d[:len(l)]...)
	floatIs(t, what+": the sum", a, api.OK, one)
	floatIs(t, what+": the greatest", b, api.OK, most)
	if !slices.EqualFunc(d, append(slices.Clone(l), nan, nan), num.Same) {
		t.Errorf("%s: changed: %v", what, d)
	}
}

func TestVector(t *testing.T) {
	a := two(53)
	vectorIs(t, "three numbers", []float64{-1, 2, -4}, 7, 4)
	vectorIs(t, "one number", []float64{-3}, 3, 3)
	vectorIs(t, "no numbers", nil, 0, 0)
	vectorIs(t, "an empty list", []float64{}, 0, 0)
	vectorIs(t, "the greatest first", []float64{-9, 1, 2}, 12, 9)
	vectorIs(t, "the greatest in the middle", []float64{1, -9, 2}, 12, 9)
	vectorIs(t, "noughts", []float64{nought, nought}, 0, 0)
	vectorIs(t, "-0", []float64{nought}, 0, 0)
	vectorIs(t, "ones behind", []float64{-a, 1, -1}, a, a)
	vectorIs(t, "ones ahead", []float64{-1, 1, -a}, a+2, a)
	vectorIs(t, "tenths", []float64{0.1, -0.2, 0.3}, 0.6000000000000001, 0.3)
	vectorIs(t, "tenths turned about", []float64{0.3, -0.2, 0.1}, 0.6, 0.3)
	vectorIs(t, "subnormal", []float64{tiny, -2 * tiny}, 3*tiny, 2*tiny)
	vectorIs(t, "beyond the greatest number", []float64{top, -top}, inf, top)
	vectorIs(t, "infinities", []float64{inf, -inf, 1}, inf, inf)
	vectorIs(t, "one infinity", []float64{1, -inf}, inf, inf)
	for i := range 3 {
		for _, far := range []float64{1, -5, inf} {
			l := []float64{far, far, far}
			l[i] = nan
			vectorIs(t, "a NaN", l, nan, nan)
		}
	}
	if a, b := norms.Vector(); !num.Same(a, 0) || !num.Same(b, 0) {
		t.Errorf("of nothing: %v, %v", a, b)
	}
	if a, b := norms.Vector(3, -4, 1); a != 8 || b != 4 {
		t.Errorf("told one by one: %v, %v", a, b)
	}
}

func TestVectorOfManyNumbers(t *testing.T) {
	for _, x := range odd() {
		for _, y := range odd() {
			for _, z := range odd() {
				l := []float64{x, y, z}
				vectorIs(t, "all kinds", l, total(l), peak(l))
			}
		}
	}
	for seed := range uint64(100) {
		l := anyFloats(seed+1, int(seed), []int{1, 4, 30, 500}[seed%4])
		vectorIs(t, "many numbers", l, total(l), peak(l))
	}
}

// P10.2

func TestOneIsInfTurnedAbout(t *testing.T) {
	for seed := range uint64(60) {
		rows, cols := int(seed%9), int(seed%7)
		m := view.Dense(rows, cols, anyFloats(seed+1, rows*cols, 2+int(seed%3)*20)...)
		if seed%5 == 0 {
			view.Set(m, rows-1, cols/2, odd()[seed%uint64(len(odd()))])
		}
		turned, e := ger.Turn(m)
		if e != api.OK {
			t.Fatalf("Turn: error %d", int(e))
		}
		one, e := norms.One(m)
		other, _ := norms.Inf(turned)
		floatIs(t, "One, and Inf turned about", one, e, other)
		one, e = norms.One(turned)
		other, _ = norms.Inf(m)
		floatIs(t, "One turned about, and Inf", one, e, other)
	}
}

// P1

func TestEveryCallEnds(t *testing.T) {
	edges := []int{least, -1, 0, 1, 2, 3, 4, 1 << 31, 1 << 62, most - 1, most}
	for _, d := range [][]float64{nil, {}, {1, -2, 3, 4}} {
		for _, off := range edges {
			for _, rows := range edges {
				for _, cols := range edges {
					for _, ld := range edges {
						anyMatrix(t, api.Mat{D: d, Off: off, Rows: rows, Cols: cols, Ld: ld})
					}
				}
			}
		}
	}
}

// anyMatrix looks whether each call tells of m, of up to 4 numbers, what it should.
func anyMatrix(t *testing.T, m api.Mat) {
	t.Helper()
	if view.Good(m) {
		g := grid{0, 0, nil}
		if m.Rows > 0 && m.Cols > 0 {
			g = grid{m.Cols, m.Rows, view.Numbers(m)} // told column by column: turned about
		}
		tell(t, "any matrix", m, g.inf(), g.one(), peak(g.l))
		return
	}
	for _, call := range []func(api.Mat) (float64, api.Errno){norms.One, norms.Inf, norms.Max} {
		if x, e := call(m); e != api.ErrArg || !num.Same(x, 0) {
			t.Errorf("of %v: %v, error %d", m, x, int(e))
		}
	}
}
