package trsv_test

import (
	"math"
	"math/big"
	"slices"
	"testing"

	"straightedge/api"
	"straightedge/num"
	"straightedge/trsv"
	"straightedge/view"
)

const (
	most  = math.MaxInt
	least = math.MinInt
	top   = math.MaxFloat64
	tiny  = math.SmallestNonzeroFloat64
	guard = -77.5 // what stands between the numbers, beside them and behind the list
)

// The kinds, as the document counts them; a kind that is turned about is one.
const (
	lower       = 1
	upper       = 2
	lowerTurned = 3
	upperTurned = 4
)

var (
	inf    = math.Inf(1)
	nan    = math.NaN()
	nought = math.Copysign(0, -1)
)

func kinds() []int { return []int{lower, upper, lowerTurned, upperTurned} }

func noKinds() []int {
	return []int{0, 5, 6, -1, -2, -4, 255, 257, 1<<16 + 1, 1<<32 + 1, 1<<32 + 4, 1<<63 - 3, most, least, least + 1, least + 4}
}

// fromFirst tells whether a kind's first number is known first; else its last one is.
func fromFirst(kind int) bool { return kind == lower || kind == upperTurned }

// divides tells whether a kind divides by what is on the diagonal; else 1 stands there.
func divides(kind int) bool { return kind == upper || kind == upperTurned }

// reads tells whether a kind reads m's number (i, j).
func reads(kind, i, j int) bool { return divides(kind) && i <= j || !divides(kind) && i > j }

// names tells a kind in the tests' messages.
func names(kind int) string {
	return []string{"", "lower", "upper", "lower turned about", "upper turned about"}[kind]
}

// two is 2^k.
func two(k int) float64 { return math.Ldexp(1, k) }

// odd are numbers of all kinds.
func odd() []float64 {
	return []float64{
		0, nought, tiny, -3 * tiny, two(-1022), -two(-600), 0.1, -0.5, 1, -1, 1 + two(-52), 1 + two(-30), -1 - two(-29),
		3, -7, 1e16, two(600), -two(970), top, -top, inf, -inf, nan,
	}
}

// laying is a way to lay numbers in a list: vectors with that Inc, matrices with an Ld that is Inc - 1 more than it must be.
type laying struct{ off, inc, after int }

func layings() []laying {
	return []laying{{0, 1, 0}, {3, 1, 2}, {0, 2, 0}, {1, 3, 4}}
}

// list is a list of n numbers and w's, all guards, with guards behind its length.
func list(w laying, n int) []float64 {
	d := slices.Repeat([]float64{guard}, w.off+n+w.after+5)
	return d[:len(d)-5]
}

// laid is a vector of the numbers l, with guards everywhere else.
func laid(w laying, l ...float64) api.Vec {
	n := 0
	if len(l) > 0 {
		n = (len(l)-1)*w.inc + 1
	}
	v := api.Vec{D: list(w, n), Off: w.off, N: len(l), Inc: w.inc}
	for i, x := range l {
		v.D[w.off+i*w.inc] = x
	}
	return v
}

// vec is a vector of the numbers l and no more.
func vec(l ...float64) api.Vec { return laid(laying{inc: 1}, l...) }

// table is a matrix of the numbers l, row by row, with guards everywhere else.
func table(w laying, rows, cols int, l ...float64) api.Mat {
	ld, n := max(1, rows)+w.inc-1, 0
	if rows > 0 && cols > 0 {
		n = (cols-1)*ld + rows
	}
	m := api.Mat{D: list(w, n), Off: w.off, Rows: rows, Cols: cols, Ld: ld}
	for k, x := range l {
		m.D[w.off+k/cols+k%cols*ld] = x
	}
	return m
}

// is looks whether d is want to the last bit, and its memory behind its length as it was.
func is(t *testing.T, what string, d, want []float64) {
	t.Helper()
	listIs(t, what, d, want)
	for _, x := range d[len(d):cap(d)] {
		if x != guard {
			t.Errorf("%s: written behind the list: %v", what, x)
		}
	}
}

// listIs looks whether l, which is new memory, is want to the last bit.
func listIs(t *testing.T, what string, l, want []float64) {
	t.Helper()
	if !slices.EqualFunc(l, want, num.Same) {
		t.Errorf("%s: %v, not %v", what, l, want)
	}
}

func errorIs(t *testing.T, what string, got, want api.Errno) {
	t.Helper()
	if got != want {
		t.Errorf("%s: error %d, not %d", what, int(got), int(want))
	}
}

// wrongVecs are vectors that aren't right, each by a thing of its own.
func wrongVecs() []api.Vec {
	d := vec(1, 2, 3, 4, 5, 6).D
	return []api.Vec{
		{},
		{D: d},
		{D: d, N: 2},
		{D: d, N: 2, Inc: -1},
		{D: d, N: -1, Inc: 1},
		{D: d, N: 2, Off: -1, Inc: 1},
		{D: d, Off: -1, Inc: 1},
		{D: d, N: 7, Inc: 1},
		{D: vec(1, 2).D, N: 3, Inc: 1},
		{D: d, N: 3, Inc: 3},
		{D: d, N: 5, Inc: 1 << 62},
		{D: d, N: 2, Off: most, Inc: most},
		{D: d, N: most, Inc: 1},
		{D: d, N: least, Inc: least, Off: least},
		{N: 1, Inc: 1},
	}
}

// wrongMats are matrices that aren't right, each by a thing of its own.
func wrongMats() []api.Mat {
	d := vec(1, 2, 3, 4, 5, 6).D
	return []api.Mat{
		{},
		{D: d},
		{D: d, Rows: 2, Cols: 2},
		{D: d, Rows: 2, Cols: 2, Ld: 1},
		{D: d, Rows: 2, Cols: 2, Ld: -2},
		{D: d, Rows: -1, Cols: 2, Ld: 2},
		{D: d, Rows: 2, Cols: -1, Ld: 2},
		{D: d, Rows: -1, Cols: -1, Ld: 2},
		{D: d, Off: -1, Rows: 2, Cols: 2, Ld: 2},
		{D: d, Off: 3, Rows: 2, Cols: 2, Ld: 2},
		{D: d, Rows: 2, Cols: 2, Ld: 5},
		{D: d, Rows: 3, Cols: 3, Ld: 3},
		{D: d, Rows: 2, Cols: 5, Ld: 1 << 62},
		{D: d, Rows: most, Cols: most, Ld: most, Off: most},
		{D: d, Rows: least, Cols: least, Ld: least, Off: least},
		{D: d, Ld: 0, Rows: 0, Cols: 0},
		{D: d, Off: -1, Ld: 1},
		{Rows: 1, Cols: 1, Ld: 1},
	}
}

// anyFloats are n floats that look like chance and are the same each time: their Exps are about from -wide to wide.
func anyFloats(seed uint64, n, wide int) []float64 {
	l := make([]float64, n)
	for i := range l {
		seed = seed*6364136223846793005 + 1442695040888963407
		x := float64(int64(seed)) / (1 << 63)
		seed = seed*6364136223846793005 + 1442695040888963407
		l[i] = math.Ldexp(x, int(seed>>33)%(2*wide+1)-wide)
	}
	return l
}

// exactly is x, with room for all digits of a sum and a product of floats, and enough of a quotient.
func exactly(x float64) *big.Float { return new(big.Float).SetPrec(5000).SetFloat64(x) }

func room() *big.Float { return new(big.Float).SetPrec(5000) }

// times, plus, less and over are what IEEE 754 makes of two numbers: exactly, then rounded once. Infinities, NaNs, and what is said of noughts' signs are left to the machine.
func times(x, y float64) float64 {
	if !num.Finite(x, y) {
		return x * y
	}
	p, _ := room().Mul(exactly(x), exactly(y)).Float64()
	return p
}

func plus(x, y float64) float64 {
	if x == 0 && y == 0 || !num.Finite(x, y) {
		return x + y
	}
	s, _ := room().Add(exactly(x), exactly(y)).Float64()
	return s
}

func less(x, y float64) float64 {
	if x == 0 && y == 0 || !num.Finite(x, y) {
		return x - y
	}
	d, _ := room().Sub(exactly(x), exactly(y)).Float64()
	return d
}

func over(x, y float64) float64 {
	if x == 0 || y == 0 || !num.Finite(x, y) {
		return x / y
	}
	q, _ := room().Quo(exactly(x), exactly(y)).Float64()
	return q
}

// numbersOf are the numbers of v.
func numbersOf(v api.Vec) []float64 {
	var l []float64
	for i := range v.N {
		l = append(l, v.D[v.Off+i*v.Inc])
	}
	return l
}

// byRows are the numbers of m, row by row.
func byRows(m api.Mat) []float64 {
	l := make([]float64, 0, m.Rows*m.Cols)
	for i := range m.Rows {
		l = append(l, numbersOf(view.Row(m, i))...)
	}
	return l
}

// system is a matrix, row by row, and as many numbers as it has rows.
type system struct {
	kind int
	m, x []float64
}

// at is m's number (i, j).
func (s system) at(i, j int) float64 { return s.m[i*len(s.x)+j] }

// solved is what the document's words make of s.
func (s system) solved() []float64 {
	x, n := slices.Clone(s.x), len(s.x)
	switch s.kind {
	case lower:
		for j := 0; j < n; j++ {
			for i := j + 1; i < n; i++ {
				x[i] = less(x[i], times(s.at(i, j), x[j]))
			}
		}
	case upper:
		for j := n - 1; j >= 0; j-- {
			x[j] = over(x[j], s.at(j, j))
			for i := 0; i <= j-1; i++ {
				x[i] = less(x[i], times(s.at(i, j), x[j]))
			}
		}
	case lowerTurned:
		for i := n - 1; i >= 0; i-- {
			for k := i + 1; k < n; k++ {
				x[i] = less(x[i], times(s.at(k, i), x[k]))
			}
		}
	case upperTurned:
		for i := 0; i < n; i++ {
			for k := 0; k <= i-1; k++ {
				x[i] = less(x[i], times(s.at(k, i), x[k]))
			}
			x[i] = over(x[i], s.at(i, i))
		}
	}
	return x
}

// applied is what the document's words make of the product of s' matrix and s' numbers.
func (s system) applied() []float64 {
	l := make([]float64, len(s.x))
	for i := range l {
		for k, x := range s.x {
			switch {
			case i == k && (s.kind == lower || s.kind == lowerTurned):
				l[i] = plus(l[i], x)
			case s.kind == lower && k < i, s.kind == upper && k >= i:
				l[i] = plus(l[i], times(s.at(i, k), x))
			case s.kind == lowerTurned && k > i, s.kind == upperTurned && k <= i:
				l[i] = plus(l[i], times(s.at(k, i), x))
			}
		}
	}
	return l
}

// spoilt is s with by at each place of m that its kind doesn't read.
func (s system) spoilt(by float64) system {
	m, n := slices.Clone(s.m), len(s.x)
	for i := range n {
		for j := range n {
			if !reads(s.kind, i, j) {
				m[i*n+j] = by
			}
		}
	}
	return system{s.kind, m, s.x}
}

// unread are s, and s with other numbers at the places that its kind doesn't read.
func (s system) unread() []system {
	return []system{s, s.spoilt(0), s.spoilt(nought), s.spoilt(-3), s.spoilt(inf), s.spoilt(nan)}
}

// solveIs looks whether x comes to want, however m and x are laid and whatever stands where the kind doesn't read, and nothing else changes.
func solveIs(t *testing.T, what string, s system, want ...float64) {
	t.Helper()
	what = names(s.kind) + ", " + what
	n := len(s.x)
	for _, s := range s.unread() {
		for _, wm := range layings() {
			for _, wx := range layings() {
				m, x := table(wm, n, n, s.m...), laid(wx, s.x...)
				errorIs(t, what, trsv.Solve(s.kind, m, x), api.OK)
				is(t, what, x.D, laid(wx, want...).D)
				is(t, what+", m", m.D, table(wm, n, n, s.m...).D)
			}
		}
	}
}

// applyIs looks whether the product is want, however m is laid and whatever stands where the kind doesn't read, in new memory, and nothing changes.
func applyIs(t *testing.T, what string, s system, want ...float64) {
	t.Helper()
	what = names(s.kind) + ", " + what
	n := len(s.x)
	for _, s := range s.unread() {
		for _, wm := range layings() {
			m, x := table(wm, n, n, s.m...), vec(s.x...)
			l, e := trsv.Apply(s.kind, m, x.D...)
			errorIs(t, what, e, api.OK)
			listIs(t, what, l, want)
			for k := range l {
				l[k] = 99
			}
			is(t, what+", m", m.D, table(wm, n, n, s.m...).D)
			is(t, what+", l", x.D, vec(s.x...).D)
			again, _ := trsv.Apply(s.kind, m, x.D...)
			clear(m.D)
			clear(x.D)
			listIs(t, what+", again", again, want)
		}
	}
}

// pair is a system of two numbers: one that is known, and the rest, of which by times the known one is taken off, and which is divided by d.
func pair(kind int, by, known, rest, d float64) system {
	m := []float64{d, 5, by, 1}
	switch kind {
	case lower:
		m = []float64{1, 5, by, d}
	case upper:
		m = []float64{d, by, 5, 1}
	case upperTurned:
		m = []float64{1, by, 5, d}
	}
	return system{kind, m, inOrder(kind, known, rest)}
}

// inOrder are the numbers of a pair.
func inOrder(kind int, known, rest float64) []float64 {
	if fromFirst(kind) {
		return []float64{known, rest}
	}
	return []float64{rest, known}
}

// restIs looks whether, in each of the kinds, rest less by times known comes to want.
func restIs(t *testing.T, what string, by, known, rest, want float64) {
	t.Helper()
	for _, kind := range kinds() {
		solveIs(t, what, pair(kind, by, known, rest, 1), inOrder(kind, known, want)...)
	}
}

// overIs looks whether rest, divided by d, comes to want: in the two kinds that divide, of one number and of two.
func overIs(t *testing.T, what string, rest, d, want float64) {
	t.Helper()
	for _, kind := range []int{upper, upperTurned} {
		solveIs(t, what+", one number", system{kind, []float64{d}, []float64{rest}}, want)
		solveIs(t, what, pair(kind, 0, 3, rest, d), inOrder(kind, 3, want)...)
	}
}

// P9.1: ordinary systems

func TestSolve(t *testing.T) {
	solveIs(t, "the document's", system{upper, []float64{2, 1, 0, 4}, []float64{4, 8}}, 1, 2)
	solveIs(t, "two", system{lower, []float64{1, 0, 3, 1}, []float64{2, 5}}, 2, -1)
	solveIs(t, "two", system{lowerTurned, []float64{1, 0, 3, 1}, []float64{2, 5}}, -13, 5)
	solveIs(t, "two", system{upperTurned, []float64{2, 1, 0, 4}, []float64{4, 8}}, 2, 1.5)
	m := []float64{2, 1, 4, 3, 4, 2, 1, 2, 8}
	solveIs(t, "three", system{lower, m, []float64{1, 5, 8}}, 1, 2, 3)
	solveIs(t, "three", system{upper, m, []float64{16, 14, 24}}, 1, 2, 3)
	solveIs(t, "three", system{lowerTurned, m, []float64{10, 8, 3}}, 1, 2, 3)
	solveIs(t, "three", system{upperTurned, m, []float64{2, 9, 32}}, 1, 2, 3)
	m = []float64{
		4, 1, -2, 3,
		2, -8, 5, 1,
		-1, 3, 0.5, 7,
		6, -2, 4, -16,
	}
	solveIs(t, "four", system{lower, m, []float64{3, 4, -12, 26}}, 3, -2, -3, 16)
	solveIs(t, "four", system{upper, m, []float64{-13, 14, 16, -32}}, -3, 1, 4, 2)
	solveIs(t, "four", system{lowerTurned, m, []float64{3, 5, 9, 2}}, -20, 6, 1, 2)
	solveIs(t, "four", system{upperTurned, m, []float64{8, -6, 1, 9}}, 2, 1, 0, -0.125)
}

func TestSolveOfOneNumberAndNone(t *testing.T) {
	for _, x := range odd() {
		for _, kind := range []int{lower, lowerTurned} {
			solveIs(t, "one number, by 1", system{kind, []float64{7}, []float64{x}}, x)
		}
		for _, d := range odd() {
			if d != 0 {
				overIs(t, "by a number", x, d, over(x, d))
			}
		}
	}
	for _, kind := range kinds() {
		solveIs(t, "no numbers", system{kind, nil, nil})
	}
}

func TestSolveOfNoNumbersAnywhere(t *testing.T) {
	d := vec(1, 2, 3).D
	for _, kind := range kinds() {
		for _, m := range []api.Mat{{Ld: 1}, {Off: most, Ld: most}, {D: d, Off: most, Ld: most}, {D: d, Ld: 1}, {D: d, Off: 3, Ld: 7}} {
			for _, x := range []api.Vec{{Inc: 1}, {Inc: most, Off: most}, {D: d, Inc: 1}, {D: d, Inc: 2, Off: 9}, {D: d, Off: most, Inc: most}} {
				errorIs(t, names(kind)+", nothing", trsv.Solve(kind, m, x), api.OK)
			}
			l, e := trsv.Apply(kind, m)
			errorIs(t, names(kind)+", nothing", e, api.OK)
			listIs(t, names(kind)+", nothing", l, nil)
		}
	}
	is(t, "nothing", d, []float64{1, 2, 3})
}

func TestOneNumberFarApart(t *testing.T) {
	for _, kind := range kinds() {
		solution, product := 5.0, 3.0
		if divides(kind) {
			solution, product = 1.25, 12
		}
		x, m := vec(9, 5, 9), vec(6, 6, 4)
		x.Off, x.N, x.Inc = 1, 1, most
		far := api.Mat{D: m.D, Off: 2, Rows: 1, Cols: 1, Ld: most}
		errorIs(t, names(kind), trsv.Solve(kind, far, x), api.OK)
		is(t, names(kind), x.D, []float64{9, solution, 9})
		is(t, names(kind)+", m", m.D, []float64{6, 6, 4})
		l, e := trsv.Apply(kind, far, 3)
		errorIs(t, names(kind), e, api.OK)
		listIs(t, names(kind), l, []float64{product})
	}
}

// P9.1: the order of the steps, and rounding

func TestOrderOfSteps(t *testing.T) {
	b := two(53) // 1 + b is b, so of 1 less -b less b there is left 0, of 1 less b less -b 1
	for _, c := range []struct{ first, then, want float64 }{{-b, b, 0}, {b, -b, 1}, {-b, b - 2, 2}, {1, b, -b}, {b, 1, -b}, {-1, -b, b + 2}} {
		solveIs(t, "the first one ahead of the second", system{lower, []float64{1, 0, 0, 0, 1, 0, c.first, c.then, 1}, []float64{1, 1, 1}}, 1, 1, c.want)
		solveIs(t, "the last one ahead of the second", system{upper, []float64{1, c.then, c.first, 0, 1, 0, 0, 0, 1}, []float64{1, 1, 1}}, c.want, 1, 1)
		solveIs(t, "the second one ahead of the last", system{lowerTurned, []float64{1, 0, 0, c.first, 1, 0, c.then, 0, 1}, []float64{1, 1, 1}}, c.want, 1, 1)
		solveIs(t, "the first one ahead of the second", system{upperTurned, []float64{1, 0, c.first, 0, 1, c.then, 0, 0, 1}, []float64{1, 1, 1}}, 1, 1, c.want)
	}
}

func TestProductsAreTakenOffOneByOne(t *testing.T) {
	b := two(53) // less -1 it is b, once and twice; less -2 it is b + 2
	solveIs(t, "one by one", system{lower, []float64{1, 0, 0, 0, 1, 0, -1, -1, 1}, []float64{1, 1, b}}, 1, 1, b)
	solveIs(t, "one by one", system{upper, []float64{1, -1, -1, 0, 1, 0, 0, 0, 1}, []float64{b, 1, 1}}, b, 1, 1)
	solveIs(t, "one by one", system{lowerTurned, []float64{1, 0, 0, -1, 1, 0, -1, 0, 1}, []float64{b, 1, 1}}, b, 1, 1)
	solveIs(t, "one by one", system{upperTurned, []float64{1, 0, -1, 0, 1, -1, 0, 0, 1}, []float64{1, 1, b}}, 1, 1, b)
}

func TestStepsAreNotFused(t *testing.T) {
	x := 1 + two(-30) // its square is 1 + 2^-29 + 2^-60, rounded without the last
	restIs(t, "a product that is rounded", x, x, 1+two(-29), 0)
	restIs(t, "a product that is rounded, below 0", -x, x, -1-two(-29), 0)
	restIs(t, "a product too great", two(1000), two(24), top, -inf)
	restIs(t, "a product too small", two(-600), two(-475), tiny, tiny)
	rest := -1 - two(-29)
	applyIs(t, "a product that is rounded", system{lower, []float64{1, 0, 0, 0, 1, 0, rest, x, 1}, []float64{1, x, 0}}, 1, x, 0)
	applyIs(t, "a product that is rounded", system{upper, []float64{1, x, 0, 1}, []float64{rest, x}}, 0, x)
	applyIs(t, "a product that is rounded", system{lowerTurned, []float64{1, 0, x, 1}, []float64{rest, x}}, 0, x)
	applyIs(t, "a product that is rounded", system{upperTurned, []float64{1, rest, 0, x}, []float64{1, x}}, 1, 0)
}

func TestQuotients(t *testing.T) {
	overIs(t, "not times 1 over it", 49, 49, 1)
	overIs(t, "not times 1 over it", 5, 49, over(5, 49))
	overIs(t, "a third", 1, 3, 1.0/3)
	overIs(t, "1 over it is too great", two(-1030), two(-1040), 1024)
	overIs(t, "1 over it is too small", top, top, 1)
	for _, kind := range []int{upper, upperTurned} {
		solveIs(t, "the difference is divided", pair(kind, 3, 0.1, 1, 7), inOrder(kind, 0.1, over(less(1, times(3, 0.1)), 7))...)
	}
	solveIs(t, "what is divided is taken off", system{upper, []float64{3, 5, 0, 7}, []float64{1, 2}}, over(less(1, times(5, over(2, 7))), 3), over(2, 7))
	solveIs(t, "what is divided is taken off", system{upperTurned, []float64{7, 5, 0, 3}, []float64{2, 1}}, over(2, 7), over(less(1, times(5, over(2, 7))), 3))
}

// P9.1: noughts, overflow, underflow, infinities, NaNs

func TestDifferencesThatAreNought(t *testing.T) {
	restIs(t, "cancels from above", 1, 3, 3, 0)
	restIs(t, "cancels from below", 1, -3, -3, 0)
	restIs(t, "cancels at the least number", -1, tiny, -tiny, 0)
	restIs(t, "0 less 0", 1, 0, 0, 0)
	restIs(t, "0 less -0", -1, 0, 0, 0)
	restIs(t, "-0 less 0", 1, 0, nought, nought)
	restIs(t, "-0 less -0", -1, 0, nought, 0)
	restIs(t, "-0 less 0, by two signs", -1, nought, nought, nought)
	restIs(t, "-0 less 0, by m", 0, 1, nought, nought)
	restIs(t, "-0 less -0, by m", nought, 1, nought, 0)
	restIs(t, "-0 less what is too small", two(-600), two(-600), nought, nought)
	restIs(t, "-0 less what is too small and below 0", -two(-600), two(-600), nought, 0)
}

func TestQuotientsThatAreNought(t *testing.T) {
	overIs(t, "0", 0, 3, 0)
	overIs(t, "0 by what is below it", 0, -3, nought)
	overIs(t, "-0", nought, 3, nought)
	overIs(t, "-0 by what is below it", nought, -3, 0)
	overIs(t, "what is too small", tiny, 2, 0)
	overIs(t, "what is too small, to even", 3*tiny, 2, 2*tiny)
	overIs(t, "what is too small, below 0", -two(-600), two(600), nought)
	overIs(t, "by an infinity", -3, inf, nought)
	overIs(t, "by an infinity below 0", -3, -inf, 0)
}

func TestNoughtsAreNotCutShort(t *testing.T) {
	for _, far := range []float64{inf, -inf, nan} {
		for _, zero := range []float64{0, nought} {
			restIs(t, "a 0 of x", far, zero, 3, nan)
			restIs(t, "a 0 of m", zero, far, 3, nan)
		}
	}
	restIs(t, "a 0 of x, by a number", -5, 0, nought, 0)
	restIs(t, "a 0 of m, by a number", 0, -5, nought, 0)
}

func TestOverflowAndUnderflow(t *testing.T) {
	restIs(t, "a product", two(600), two(600), top, -inf)
	restIs(t, "a product below 0", -two(600), two(600), -top, inf)
	restIs(t, "a difference", -1, two(970), top, inf)
	restIs(t, "a difference below 0", 1, two(970), -top, -inf)
	restIs(t, "just not", -1, two(969), top, top)
	restIs(t, "a subnormal product", two(-600), 3*two(-474), tiny, -2*tiny)
	restIs(t, "half the least number, to even", two(-600), two(-475), 0, 0)
	restIs(t, "three halves of it, to even", 3*two(-600), two(-475), 0, -2*tiny)
	restIs(t, "a subnormal difference", 1, two(-1022)-tiny, two(-1022), tiny)
	overIs(t, "a quotient", top, 0.5, inf)
	overIs(t, "a quotient below 0", top, -tiny, -inf)
	overIs(t, "a subnormal quotient", two(-1000), two(73), 2*tiny)
	overIs(t, "by a subnormal number", 3*tiny, 2*tiny, 1.5)
	overIs(t, "by the least number", two(-60), tiny, two(1014))
	solveIs(t, "what is too great goes on", system{upper, []float64{1, 1, 1, 0, 1, -2, 0, 0, 0.5}, []float64{1, 1, top}}, -inf, inf, inf)
	solveIs(t, "what is too great goes on", system{lower, []float64{1, 0, 0, -2, 1, 0, 1, 1, 1}, []float64{top, 1, 1}}, top, inf, -inf)
}

func TestInfinities(t *testing.T) {
	restIs(t, "of x", 2, inf, 3, -inf)
	restIs(t, "of x, below 0", 2, -inf, 3, inf)
	restIs(t, "of m", inf, 2, 3, -inf)
	restIs(t, "of m, below 0", -inf, 2, 3, inf)
	restIs(t, "there already", 2, 3, -inf, -inf)
	restIs(t, "of both signs", -1, inf, inf, inf)
	restIs(t, "of one sign", 1, inf, inf, nan)
	overIs(t, "divided", inf, -3, -inf)
	overIs(t, "divides", 3, -inf, nought)
	overIs(t, "both", inf, inf, nan)
}

// nanFrom is l with NaNs at place i, and at all that hang on it; none, if i is below 0.
func nanFrom(kind, i int, l []float64) []float64 {
	for k := range l {
		if i >= 0 && (k == i || (k > i) == fromFirst(kind)) {
			l[k] = nan
		}
	}
	return l
}

// TestNaNAtEachPlace looks which numbers a NaN comes to, with a matrix that has no 0.
func TestNaNAtEachPlace(t *testing.T) {
	m, x := []float64{2, 3, 5, -4, 8, 7, 6, -3, 4}, []float64{1, 2, 3}
	for _, kind := range kinds() {
		plain := system{kind, m, x}
		for p := range 9 {
			s := system{kind, slices.Clone(m), x}
			s.m[p] = nan
			row, product := -1, plain.applied()
			if reads(kind, p/3, p%3) {
				row = p / 3
				if kind == lowerTurned || kind == upperTurned {
					row = p % 3
				}
				product[row] = nan
			}
			solveIs(t, "a NaN in m", s, nanFrom(kind, row, plain.solved())...)
			applyIs(t, "a NaN in m", s, product...)
		}
		for p := range 3 {
			s := system{kind, m, slices.Clone(x)}
			s.x[p] = nan
			solveIs(t, "a NaN in x", s, nanFrom(kind, p, plain.solved())...)
			applyIs(t, "a NaN in l", s, nanFrom(kind, p, plain.applied())...)
		}
	}
}

func TestSystemsOfAllKindsOfNumbers(t *testing.T) {
	for _, by := range odd() {
		for _, known := range odd() {
			for _, rest := range odd() {
				for _, kind := range kinds() {
					s := pair(kind, by, known, rest, -3)
					x, m := vec(s.x...), table(laying{inc: 1}, 2, 2, s.m...)
					errorIs(t, "all kinds", trsv.Solve(kind, m, x), api.OK)
					is(t, "all kinds, "+names(kind), x.D, s.solved())
					l, e := trsv.Apply(kind, m, s.x...)
					errorIs(t, "all kinds", e, api.OK)
					listIs(t, "product of all kinds, "+names(kind), l, s.applied())
				}
			}
		}
	}
}

func TestSystemsOfManyNumbers(t *testing.T) {
	for _, kind := range kinds() {
		for n := range 9 {
			for _, wide := range []int{1, 4, 30, 300} {
				seed := uint64(n*100 + wide)
				s := system{kind, anyFloats(seed, n*n, wide), anyFloats(seed+1, n, wide)}
				solveIs(t, "many", s, s.solved()...)
				applyIs(t, "many", s, s.applied()...)
			}
		}
		s := system{kind, anyFloats(2, 70*70, 2), anyFloats(3, 70, 2)}
		solveIs(t, "more than 64", s, s.solved()...)
		applyIs(t, "more than 64", s, s.applied()...)
	}
}

// P9.1: a 0 on the diagonal

func TestNoughtOnTheDiagonal(t *testing.T) {
	m, x := []float64{2, 3, 5, -4, 8, 7, 6, -3, 4}, []float64{1, 2, 3}
	for _, kind := range kinds() {
		for p := range 3 {
			for _, zero := range []float64{0, nought} {
				for _, w := range layings() {
					s := system{kind, slices.Clone(m), x}
					s.m[4*p] = zero
					a, v := table(w, 3, 3, s.m...), laid(w, x...)
					e := trsv.Solve(kind, a, v)
					if divides(kind) {
						errorIs(t, "a 0", e, api.ErrZero)
						is(t, "a 0", v.D, laid(w, x...).D)
					} else {
						errorIs(t, "a 0 that isn't read", e, api.OK)
						is(t, "a 0 that isn't read", v.D, laid(w, system{kind, m, x}.solved()...).D)
					}
					is(t, "a 0, m", a.D, table(w, 3, 3, s.m...).D)
					applyIs(t, "a 0 is no error of Apply", s, s.applied()...)
				}
			}
		}
	}
}

func TestNoughtOnTheDiagonalOfOneNumber(t *testing.T) {
	for _, x := range odd() {
		for _, zero := range []float64{0, nought} {
			for _, kind := range []int{upper, upperTurned} {
				v := vec(x)
				errorIs(t, "of one number", trsv.Solve(kind, view.Dense(1, 1, zero), v), api.ErrZero)
				is(t, "of one number", v.D, []float64{x})
			}
			for _, kind := range []int{lower, lowerTurned} {
				v := vec(x)
				errorIs(t, "not read", trsv.Solve(kind, view.Dense(1, 1, zero), v), api.OK)
				is(t, "not read", v.D, []float64{x})
			}
		}
	}
}

// TestWhatIsNoNoughtOnTheDiagonal: what comes near to 0, or can't be held against it, divides.
func TestWhatIsNoNoughtOnTheDiagonal(t *testing.T) {
	for _, d := range []float64{tiny, -tiny, two(-1022), nan, inf, -inf} {
		overIs(t, "divides", 3, d, over(3, d))
	}
}

// P9.1: x and m in one list

// crosses tells whether the spans from a to b and from c to d have a place in common; one that ends ahead of its beginning has none.
func crosses(a, b, c, d int) bool {
	for p := a; p <= b; p++ {
		if c <= p && p <= d {
			return true
		}
	}
	return false
}

// touches tells whether v's span and m's have a place in common.
func touches(v api.Vec, m api.Mat) bool {
	if v.N == 0 || m.Rows == 0 || m.Cols == 0 {
		return false
	}
	return crosses(v.Off, v.Off+(v.N-1)*v.Inc, m.Off, m.Off+(m.Cols-1)*m.Ld+m.Rows-1)
}

// vectors are all vectors of n numbers within d, of three Inc.
func vectors(d []float64, n int) []api.Vec {
	var all []api.Vec
	for off := range len(d) {
		for inc := 1; inc <= 3; inc++ {
			if v := (api.Vec{D: d, Off: off, N: n, Inc: inc}); view.Right(v) {
				all = append(all, v)
			}
		}
	}
	return all
}

// matrices are all square matrices of up to 2 rows within d, of three Ld.
func matrices(d []float64) []api.Mat {
	var all []api.Mat
	for off := range len(d) {
		for n := range 3 {
			for ld := 1; ld <= 3; ld++ {
				if m := (api.Mat{D: d, Off: off, Rows: n, Cols: n, Ld: ld}); view.Good(m) {
					all = append(all, m)
				}
			}
		}
	}
	return all
}

func TestSolveWithinOneList(t *testing.T) {
	was := []float64{2, -3, 5, 7, -11, 13, 17, -19}
	d := vec(was...).D
	apart := 0
	for _, m := range matrices(d) {
		for _, x := range vectors(d, m.Rows) {
			for _, kind := range kinds() {
				after, want := slices.Clone(was), api.ErrApart
				if !touches(x, m) {
					want = api.OK
					for k, n := range (system{kind, byRows(m), numbersOf(x)}).solved() {
						after[x.Off+k*x.Inc] = n
					}
					apart += x.N
				}
				errorIs(t, "in one list", trsv.Solve(kind, m, x), want)
				is(t, "in one list", d, after)
				copy(d, was)
			}
		}
	}
	if apart == 0 {
		t.Error("none of them were apart")
	}
}

func TestListsOfTwoLengthsAreOne(t *testing.T) {
	was := []float64{2, 3, 4, 5, 6, 7, 8}
	for _, kind := range kinds() {
		d := vec(was...).D
		m := api.Mat{D: d, Off: 2, Rows: 2, Cols: 2, Ld: 2}
		errorIs(t, "x in the shorter one", trsv.Solve(kind, m, api.Vec{D: d[:4], Off: 1, N: 2, Inc: 1}), api.ErrApart)
		errorIs(t, "m in the shorter one", trsv.Solve(kind, api.Mat{D: d[:4], Rows: 2, Cols: 2, Ld: 2}, api.Vec{D: d, Off: 3, N: 2, Inc: 3}), api.ErrApart)
		is(t, "that meet", d, was)
		errorIs(t, "x ahead of m", trsv.Solve(kind, m, api.Vec{D: d[:4], N: 2, Inc: 1}), api.OK)
		want := slices.Concat(system{kind, []float64{4, 6, 5, 7}, []float64{2, 3}}.solved(), was[2:])
		is(t, "x ahead of m", d, want)
	}
}

func TestRowsAndColumnsOfOneMatrix(t *testing.T) {
	l := []float64{2, 1, 4, 16, 3, 4, 2, 14, 1, 2, 8, 24, 9, 9, 9, 9}
	m := view.Dense(4, 4, l...)
	corner := view.Part(m, 0, 0, 3, 3)
	for _, kind := range kinds() {
		errorIs(t, "a row below it crosses its columns", trsv.Solve(kind, corner, view.Row(view.Part(m, 3, 0, 1, 3), 0)), api.ErrApart)
		errorIs(t, "a column of its own", trsv.Solve(kind, corner, view.Col(corner, 1)), api.ErrApart)
		errorIs(t, "its diagonal", trsv.Solve(kind, corner, api.Vec{D: m.D, N: 3, Inc: 5}), api.ErrApart)
	}
	is(t, "that meet", byRows(m), l)
	errorIs(t, "the column beside it", trsv.Solve(upper, corner, view.Col(view.Part(m, 0, 3, 3, 1), 0)), api.OK)
	is(t, "the column beside it", byRows(m), []float64{2, 1, 4, 1, 3, 4, 2, 2, 1, 2, 8, 3, 9, 9, 9, 9})
}

// P9.1: errors

func TestErrorsOfSolve(t *testing.T) {
	m, x := table(laying{inc: 1}, 2, 2, 1, 2, 3, 4), vec(1, 2)
	fails := func(what string, kind int, m api.Mat, x api.Vec, want api.Errno) {
		t.Helper()
		dm, dx := slices.Clone(m.D), slices.Clone(x.D)
		errorIs(t, what, trsv.Solve(kind, m, x), want)
		is(t, what+", x", x.D, dx)
		is(t, what+", m", m.D, dm)
	}
	for _, kind := range noKinds() {
		fails("no kind", kind, m, x, api.ErrArg)
		fails("no kind, no numbers", kind, api.Mat{Ld: 1}, vec(), api.ErrArg)
	}
	for _, kind := range kinds() {
		for _, w := range wrongMats() {
			fails("m isn't right", kind, w, x, api.ErrArg)
			fails("m isn't right, no numbers", kind, w, vec(), api.ErrArg)
			fails("m isn't right, three numbers", kind, w, vec(1, 2, 3), api.ErrArg)
		}
		for _, w := range wrongVecs() {
			fails("x isn't right", kind, m, w, api.ErrArg)
			fails("x isn't right, m has no numbers", kind, api.Mat{Ld: 1}, w, api.ErrArg)
			fails("x isn't right, m isn't square", kind, table(laying{inc: 1}, 2, 3), w, api.ErrArg)
		}
	}
	for _, kind := range noKinds() {
		for _, w := range wrongMats() {
			fails("nothing is right", kind, w, wrongVecs()[2], api.ErrArg)
		}
	}
}

func TestErrorsOfSizes(t *testing.T) {
	for _, kind := range kinds() {
		for rows := range 4 {
			for cols := range 4 {
				for n := range 5 {
					want := api.ErrSize
					if rows == cols && n == rows {
						want = api.OK
					}
					l := make([]float64, n)
					x, m := laid(laying{1, 2, 1}, l...), table(laying{2, 2, 1}, rows, cols, anyFloats(1, rows*cols, 1)...)
					was := slices.Clone(m.D)
					errorIs(t, "sizes", trsv.Solve(kind, m, x), want)
					if want != api.OK {
						is(t, "sizes, x", x.D, laid(laying{1, 2, 1}, l...).D)
					}
					answer, e := trsv.Apply(kind, m, l...)
					errorIs(t, "sizes of Apply", e, want)
					if want != api.OK {
						listIs(t, "beside an error", answer, nil)
					}
					is(t, "sizes, m", m.D, was)
				}
			}
		}
		errorIs(t, "rows without number", trsv.Solve(kind, api.Mat{Rows: most, Ld: most}, vec()), api.ErrSize)
		errorIs(t, "columns without number", trsv.Solve(kind, api.Mat{Cols: most, Ld: 1}, vec()), api.ErrSize)
		_, e := trsv.Apply(kind, api.Mat{Rows: most, Ld: most})
		errorIs(t, "rows without number", e, api.ErrSize)
		_, e = trsv.Apply(kind, api.Mat{Cols: most, Ld: 1})
		errorIs(t, "columns without number", e, api.ErrSize)
	}
}

func TestWhichErrorComesFirst(t *testing.T) {
	was := []float64{1, 2, 0, 0, nought, 0, 0, 8, 9}
	d := vec(was...).D
	v := func(off, n, inc int) api.Vec { return api.Vec{D: d, Off: off, N: n, Inc: inc} }
	m := func(off, rows, cols, ld int) api.Mat { return api.Mat{D: d, Off: off, Rows: rows, Cols: cols, Ld: ld} }
	for _, c := range []struct {
		what string
		m    api.Mat
		x    api.Vec
		want api.Errno
	}{
		{"m isn't right, not square, N differs", m(0, 3, 4, 2), v(0, 2, 1), api.ErrArg},
		{"x isn't right, N differs, x would meet m", m(0, 2, 2, 2), v(0, 10, 1), api.ErrArg},
		{"x isn't right, m isn't square", m(0, 2, 1, 2), v(0, 2, 0), api.ErrArg},
		{"m isn't square, x meets it", m(0, 2, 3, 2), v(0, 2, 1), api.ErrSize},
		{"m isn't square the other way, x meets it", m(0, 3, 2, 3), v(0, 2, 1), api.ErrSize},
		{"N differs, x meets m", m(2, 2, 2, 2), v(2, 3, 1), api.ErrSize},
		{"N differs, 0 on the diagonal", m(2, 2, 2, 2), v(7, 1, 1), api.ErrSize},
		{"x meets m, 0 on the diagonal", m(2, 2, 2, 2), v(1, 2, 1), api.ErrApart},
		{"x is m's first column, 0 on the diagonal", m(2, 2, 2, 2), v(2, 2, 1), api.ErrApart},
		{"x begins at m's last number", m(2, 2, 2, 2), v(5, 2, 1), api.ErrApart},
		{"x stands between m's columns", m(0, 2, 2, 6), v(3, 2, 1), api.ErrApart},
		{"m stands between x' numbers", m(2, 2, 2, 2), v(1, 2, 6), api.ErrApart},
	} {
		for _, kind := range kinds() {
			errorIs(t, names(kind)+", "+c.what, trsv.Solve(kind, c.m, c.x), c.want)
		}
		for _, kind := range noKinds() {
			errorIs(t, "no kind, "+c.what, trsv.Solve(kind, c.m, c.x), api.ErrArg)
		}
	}
	for _, kind := range []int{upper, upperTurned} {
		errorIs(t, "just a 0 on the diagonal", trsv.Solve(kind, m(2, 2, 2, 2), v(7, 2, 1)), api.ErrZero)
		errorIs(t, "just a -0 on the diagonal", trsv.Solve(kind, m(1, 2, 2, 2), v(7, 2, 1)), api.ErrZero)
	}
	is(t, "beside errors", d, was)
}

// P9.2: Apply

func TestApply(t *testing.T) {
	applyIs(t, "the document's", system{upper, []float64{2, 1, 0, 4}, []float64{1, 2}}, 4, 8)
	m := []float64{2, 1, 4, 3, 4, 2, 1, 2, 8}
	applyIs(t, "three", system{lower, m, []float64{1, 2, 3}}, 1, 5, 8)
	applyIs(t, "three", system{upper, m, []float64{1, 2, 3}}, 16, 14, 24)
	applyIs(t, "three", system{lowerTurned, m, []float64{1, 2, 3}}, 10, 8, 3)
	applyIs(t, "three", system{upperTurned, m, []float64{1, 2, 3}}, 2, 9, 32)
	for _, kind := range kinds() {
		applyIs(t, "none", system{kind, nil, nil})
	}
}

func TestApplyOfOneNumber(t *testing.T) {
	for _, x := range odd() {
		for _, kind := range []int{lower, lowerTurned} {
			applyIs(t, "the number itself", system{kind, []float64{7}, []float64{x}}, plus(0, x))
		}
		for _, d := range odd() {
			for _, kind := range []int{upper, upperTurned} {
				applyIs(t, "times the diagonal", system{kind, []float64{d}, []float64{x}}, plus(0, times(d, x)))
			}
		}
	}
}

func TestSumsOfApplyFromTheLeft(t *testing.T) {
	b := two(53) // 1 + b - b is 0, b - b + 1 is 1
	x := []float64{1, 1, 1}
	applyIs(t, "the diagonal last", system{lower, []float64{1, 0, 0, 0, 1, 0, b, -b, 1}, x}, 1, 1, 1)
	applyIs(t, "the first one first", system{lower, []float64{1, 0, 0, 0, 1, 0, 1, b, 1}, []float64{1, 1, -b}}, 1, 1, 0)
	applyIs(t, "the diagonal first", system{upper, []float64{1, b, -b, 0, 1, 0, 0, 0, 1}, x}, 0, 1, 1)
	applyIs(t, "the last one last", system{upper, []float64{b, -b, 1, 0, 1, 0, 0, 0, 1}, x}, 1, 1, 1)
	applyIs(t, "the diagonal first", system{lowerTurned, []float64{1, 0, 0, b, 1, 0, -b, 0, 1}, x}, 0, 1, 1)
	applyIs(t, "the last one last", system{lowerTurned, []float64{1, 0, 0, -b, 1, 0, 1, 0, 1}, []float64{b, 1, 1}}, 1, 1, 1)
	applyIs(t, "the diagonal last", system{upperTurned, []float64{1, 0, b, 0, 1, -b, 0, 0, 1}, x}, 1, 1, 1)
	applyIs(t, "the first one first", system{upperTurned, []float64{1, 0, 1, 0, 1, b, 0, 0, -b}, x}, 1, 1, 0)
}

func TestNoughtsOfApply(t *testing.T) {
	for _, kind := range kinds() {
		applyIs(t, "a sum begins with +0", system{kind, []float64{1, nought, nought, 1}, []float64{nought, nought}}, 0, 0)
		applyIs(t, "and ends there", system{kind, []float64{1, 3, 3, 1}, []float64{nought, nought}}, 0, 0)
	}
	applyIs(t, "0 times an infinity", system{lower, []float64{1, 0, 0, 1}, []float64{inf, 3}}, inf, nan)
	applyIs(t, "0 times an infinity", system{upper, []float64{1, 0, 0, 1}, []float64{3, inf}}, nan, inf)
	applyIs(t, "0 times an infinity", system{lowerTurned, []float64{1, 0, 0, 1}, []float64{3, inf}}, nan, inf)
	applyIs(t, "0 times an infinity", system{upperTurned, []float64{1, 0, 0, 1}, []float64{inf, 3}}, inf, nan)
	applyIs(t, "what is said to be 0 is no 0 times it", system{lower, []float64{1, 0, 2, 1}, []float64{3, inf}}, 3, inf)
	applyIs(t, "what is said to be 0 is no 0 times it", system{upper, []float64{1, 2, 0, 1}, []float64{inf, 3}}, inf, 3)
	applyIs(t, "what is said to be 0 is no 0 times it", system{lowerTurned, []float64{1, 0, 2, 1}, []float64{inf, 3}}, inf, 3)
	applyIs(t, "what is said to be 0 is no 0 times it", system{upperTurned, []float64{1, 2, 0, 1}, []float64{3, inf}}, 3, inf)
	applyIs(t, "overflow", system{upper, []float64{two(600), top, 0, 1}, []float64{two(600), -1}}, inf, -1)
	applyIs(t, "overflow on the way", system{lower, []float64{1, 0, 0, 0, 1, 0, 1, 1, 1}, []float64{top, top, -top}}, top, top, inf)
	applyIs(t, "underflow", system{upperTurned, []float64{two(-600), tiny, 0, two(-475)}, []float64{two(-600), two(-600)}}, 0, 0)
}

func TestErrorsOfApply(t *testing.T) {
	m := table(laying{inc: 1}, 2, 2, 1, 2, 3, 4)
	fails := func(what string, kind int, m api.Mat, want api.Errno, l ...float64) {
		t.Helper()
		dm, dl := slices.Clone(m.D), slices.Clone(l)
		answer, e := trsv.Apply(kind, m, l...)
		errorIs(t, what, e, want)
		listIs(t, what, answer, nil)
		listIs(t, what+", l", l, dl)
		is(t, what+", m", m.D, dm)
	}
	for _, kind := range noKinds() {
		fails("no kind", kind, m, api.ErrArg, 1, 2)
		fails("no kind, too many", kind, m, api.ErrArg, 1, 2, 3)
		fails("no kind, not square", kind, table(laying{inc: 1}, 2, 3), api.ErrArg, 1, 2)
		fails("no kind, no numbers", kind, api.Mat{Ld: 1}, api.ErrArg)
		for _, w := range wrongMats() {
			fails("nothing is right", kind, w, api.ErrArg, 1)
		}
	}
	for _, kind := range kinds() {
		for _, w := range wrongMats() {
			for n := range 4 {
				fails("m isn't right", kind, w, api.ErrArg, []float64{1, 2, 3}[:n]...)
			}
		}
		fails("too few", kind, m, api.ErrSize, 1)
		fails("none", kind, m, api.ErrSize)
		fails("too many", kind, m, api.ErrSize, 1, 2, 3)
		fails("not square", kind, table(laying{inc: 1}, 2, 3), api.ErrSize, 1, 2)
		fails("not square", kind, table(laying{inc: 1}, 3, 2), api.ErrSize, 1, 2)
		fails("one of no numbers", kind, api.Mat{Ld: 1}, api.ErrSize, 1)
	}
}

func TestApplyOfNumbersInTheMatrixList(t *testing.T) {
	for _, kind := range kinds() {
		m := table(laying{inc: 1}, 2, 2, 2, 3, 5, 7)
		l, e := trsv.Apply(kind, m, m.D[:2]...)
		errorIs(t, "its first column", e, api.OK)
		listIs(t, "its first column", l, system{kind, []float64{2, 3, 5, 7}, []float64{2, 5}}.applied())
		clear(l)
		is(t, "m", m.D, []float64{2, 5, 3, 7})
	}
}

// TestApplyTakesBack looks whether Solve and Apply are of one matrix: whole numbers, so that nothing is rounded.
func TestApplyTakesBack(t *testing.T) {
	for _, kind := range kinds() {
		for n := range 8 {
			m, l := make([]float64, n*n), make([]float64, n)
			for p := range m {
				m[p] = float64(p*p%11 - 5)
				if p%(n+1) == 0 {
					m[p] = float64(int(4) << (p % 3))
				}
			}
			for i := range l {
				l[i] = float64(3*i - 7)
			}
			b, e := trsv.Apply(kind, table(laying{1, 2, 3}, n, n, m...), l...)
			errorIs(t, "Apply", e, api.OK)
			solveIs(t, "what Apply made", system{kind, m, b}, l...)
		}
	}
}

// P1

func edges() []int { return []int{least, -1, 0, 1, 2, 3, 4, 1 << 31, 1 << 62, most - 1, most} }

func TestEveryCallEnds(t *testing.T) {
	for _, l := range [][]float64{nil, {1, 2, 3, 4}} {
		for _, off := range edges() {
			for _, n := range edges() {
				for _, inc := range edges() {
					anyVector(t, api.Vec{D: slices.Clone(l), Off: off, N: n, Inc: inc})
					for _, ld := range edges() {
						anyMatrix(t, api.Mat{D: slices.Clone(l), Off: off, Rows: n, Cols: inc, Ld: ld})
					}
				}
			}
		}
	}
}

// expected is what a call that needs 2 and 2 numbers answers.
func expected(right bool, rows, cols int) api.Errno {
	switch {
	case !right:
		return api.ErrArg
	case rows != 2 || cols != 2:
		return api.ErrSize
	}
	return api.OK
}

// anyVector looks whether Solve tells of v whether it is right.
func anyVector(t *testing.T, v api.Vec) {
	t.Helper()
	for _, kind := range edges() {
		want := expected(view.Right(v), v.N, 2)
		if kind < lower || kind > upperTurned {
			want = api.ErrArg
		}
		errorIs(t, "x", trsv.Solve(kind, view.Dense(2, 2, 1, 2, 3, 4), v), want)
	}
}

// anyMatrix looks whether each call tells of m whether it is right.
func anyMatrix(t *testing.T, m api.Mat) {
	t.Helper()
	for _, kind := range edges() {
		want := expected(view.Good(m), m.Rows, m.Cols)
		if kind < lower || kind > upperTurned {
			want = api.ErrArg
		}
		errorIs(t, "Solve", trsv.Solve(kind, m, vec(1, 2)), want)
		_, e := trsv.Apply(kind, m, 1, 2)
		errorIs(t, "Apply", e, want)
	}
}
