package axes_test

import (
	"math"
	"math/big"
	"slices"
	"testing"

	"straightedge/api"
	"straightedge/axes"
	"straightedge/num"
	"straightedge/view"
)

const (
	most  = math.MaxInt
	least = math.MinInt
	top   = math.MaxFloat64
	tiny  = math.SmallestNonzeroFloat64
	guard = -77.5 // what stands between the numbers, beside them and behind the list
)

var (
	inf    = math.Inf(1)
	nan    = math.NaN()
	nought = math.Copysign(0, -1)
)

// two is 2^k.
func two(k int) float64 { return math.Ldexp(1, k) }

// odd are numbers of all kinds.
func odd() []float64 {
	return []float64{
		0, nought, tiny, -tiny, 3 * tiny, two(-1022) - tiny, two(-1022), -two(-600), two(-30), 0.1, -0.5, 1, -1, 1 + two(-52), 1 + two(-30), -1 - two(-29),
		3, -7, two(53), 1e16, two(600), -two(970), two(1023), top, -top, inf, -inf, nan,
	}
}

// laying is a way to lay numbers in a list.
type laying struct{ off, inc, after int }

func layings() []laying {
	return []laying{{0, 1, 0}, {3, 1, 2}, {0, 2, 0}, {1, 3, 4}}
}

// laid is a vector of the numbers l, with guards everywhere else, and behind the list's length.
func laid(w laying, l ...float64) api.Vec {
	n := w.off + w.after
	if len(l) > 0 {
		n += (len(l)-1)*w.inc + 1
	}
	d := slices.Repeat([]float64{guard}, n+5)
	for i, x := range l {
		d[w.off+i*w.inc] = x
	}
	return api.Vec{D: d[:n], Off: w.off, N: len(l), Inc: w.inc}
}

// vec is a vector of the numbers l and no more, with guards behind its list.
func vec(l ...float64) api.Vec { return laid(laying{inc: 1}, l...) }

// is looks whether d is want to the last bit, and its memory behind its length as it was.
func is(t *testing.T, what string, d, want []float64) {
	t.Helper()
	if !slices.EqualFunc(d, want, num.Same) {
		t.Errorf("%s: %v, not %v", what, d, want)
	}
	for _, x := range d[len(d):cap(d)] {
		if x != guard {
			t.Errorf("%s: written behind the list: %v", what, x)
		}
	}
}

func errorIs(t *testing.T, what string, got, want api.Errno) {
	t.Helper()
	if got != want {
		t.Errorf("%s: error %d, not %d", what, int(got), int(want))
	}
}

// wrong are vectors that aren't right, each by a thing of its own.
func wrong() []api.Vec {
	d := vec(1, 2, 3, 4, 5, 6).D
	return []api.Vec{
		{},
		{D: d},
		{D: d, N: 2},
		{D: d, N: 2, Inc: -1},
		{D: d, N: -1, Inc: 1},
		{D: d, N: 2, Off: -1, Inc: 1},
		{D: d, Off: -1, Inc: 1},
		{D: d, N: 7, Inc: 1},
		{D: vec(1, 2).D, N: 3, Inc: 1},
		{D: d, N: 3, Inc: 3},
		{D: d, N: 5, Inc: 1 << 62},
		{D: d, N: 2, Off: most, Inc: most},
		{D: d, N: most, Inc: 1},
		{D: d, N: least, Inc: least, Off: least},
		{N: 1, Inc: 1},
	}
}

// none are vectors that are right, without numbers.
func none() []api.Vec {
	d := vec(1, 2, 3).D
	return []api.Vec{{Inc: 1}, {Inc: most, Off: most}, {D: d, Inc: 1}, {D: d, Inc: 2, Off: 9}, {D: d, Off: most, Inc: most}}
}

// anyFloats are n floats that look like chance and are the same each time: their Exps are about from -wide to wide.
func anyFloats(seed uint64, n, wide int) []float64 {
	l := make([]float64, n)
	for i := range l {
		seed = seed*6364136223846793005 + 1442695040888963407
		x := float64(int64(seed)) / (1 << 63)
		seed = seed*6364136223846793005 + 1442695040888963407
		l[i] = math.Ldexp(x, int(seed>>33)%(2*wide+1)-wide)
	}
	return l
}

// exactly is x, with room for all digits of a sum and a product of floats.
func exactly(x float64) *big.Float { return new(big.Float).SetPrec(5000).SetFloat64(x) }

// product and plus are what IEEE 754 makes of finite numbers: exactly, then rounded once.
func product(x, y float64) float64 {
	p, _ := new(big.Float).SetPrec(5000).Mul(exactly(x), exactly(y)).Float64()
	return p
}

func plus(x, y float64) float64 {
	if x == 0 && y == 0 {
		return x + y // by the noughts' signs, of which the exact sum knows another rule
	}
	s, _ := new(big.Float).SetPrec(5000).Add(exactly(x), exactly(y)).Float64()
	return s
}

// P6.1: Axpy

// axpyIs looks whether y comes to want by a times x, however x and y are laid, and nothing else changes.
func axpyIs(t *testing.T, what string, a float64, x, y, want []float64) {
	t.Helper()
	for _, v := range layings() {
		for _, w := range layings() {
			vx, vy := laid(v, x...), laid(w, y...)
			errorIs(t, what, axes.Axpy(a, vx, vy), api.OK)
			is(t, what, vy.D, laid(w, want...).D)
			is(t, what+", x", vx.D, laid(v, x...).D)
		}
	}
}

// oneIs looks what Axpy makes of one number, y, and of y among others.
func oneIs(t *testing.T, what string, a, x, y, want float64) {
	t.Helper()
	axpyIs(t, what, a, []float64{x}, []float64{y}, []float64{want})
	axpyIs(t, what+", among others", a, []float64{0, x, nought}, []float64{5, y, -6}, []float64{5, want, -6})
}

func TestAxpy(t *testing.T) {
	axpyIs(t, "two numbers", 2, []float64{1, 1}, []float64{3, 4}, []float64{5, 6})
	axpyIs(t, "three numbers", -3, []float64{1, -2, 0.5}, []float64{10, 20, 30}, []float64{7, 26, 28.5})
	axpyIs(t, "one number", 0.5, []float64{3}, []float64{-1}, []float64{0.5})
	axpyIs(t, "no numbers", 7, nil, nil, nil)
	axpyIs(t, "times 1", 1, []float64{1, -2}, []float64{-1, 3}, []float64{0, 1})
	axpyIs(t, "times -1", -1, []float64{1, -2}, []float64{1, 3}, []float64{0, 5})
}

func TestAxpyOfNoNumbersAnywhere(t *testing.T) {
	for _, v := range none() {
		was := slices.Clone(v.D)
		for _, w := range none() {
			errorIs(t, "no numbers", axes.Axpy(nan, v, w), api.OK)
			errorIs(t, "no numbers, turned about", axes.Axpy(nan, w, v), api.OK)
		}
		errorIs(t, "the same one without numbers", axes.Axpy(2, v, v), api.OK)
		is(t, "no numbers", v.D, was)
	}
}

func TestAxpyOfOneNumberFarApart(t *testing.T) {
	x, y := vec(9, 5, 9), vec(8, 8, 3)
	x.Off, x.N, x.Inc, y.Off, y.N, y.Inc = 1, 1, most, 2, 1, 1<<62
	errorIs(t, "one number", axes.Axpy(2, x, y), api.OK)
	is(t, "y", y.D, []float64{8, 8, 13})
	is(t, "x", x.D, []float64{9, 5, 9})
}

func TestAxpyIsNotFused(t *testing.T) {
	x := 1 + two(-30) // its square is 1 + 2^-29 + 2^-60, rounded without the last
	oneIs(t, "the rest of a square", x, x, -1-two(-29), 0)
	oneIs(t, "the rest of a square, below 0", -x, x, 1+two(-29), 0)
	oneIs(t, "the product rounds down, then the sum", x, x, two(-60), 1+two(-29))
	oneIs(t, "a third of three", 1.0/3, 3, -1, 0)
	oneIs(t, "a tenth of ten", 0.1, 10, -1, 0)
	oneIs(t, "a product too great for a float", two(1000), two(24), -top, inf)
	oneIs(t, "a product too small for a float", two(-600), two(-475), tiny, tiny)
	oneIs(t, "more than a half of the last bit", two(-600), 1.5*two(-475), tiny, 2*tiny)
	oneIs(t, "less than a half of the last bit", two(-600), 1.5*two(-476), 3*tiny, 3*tiny)
}

func TestAxpyRoundsTiesToEven(t *testing.T) {
	oneIs(t, "a sum, down", 1, two(-53), 1, 1)
	oneIs(t, "a sum, up", 1, two(-53), 1+two(-52), 1+two(-51))
	oneIs(t, "more than the half", 1, two(-53)+two(-105), 1, 1+two(-52))
	oneIs(t, "a product, down", 1+two(-27), 1+two(-26), 0, 1+two(-27)+two(-26))
	oneIs(t, "a product, up", 1+two(-26)+two(-52), 1+two(-1), 0, 1.5+3*two(-27)+two(-51))
}

func TestAxpyOfNoughts(t *testing.T) {
	oneIs(t, "cancels from above", -1, 1, 1, 0)
	oneIs(t, "cancels from below", 1, 1, -1, 0)
	oneIs(t, "cancels at the least number", 1, -tiny, tiny, 0)
	oneIs(t, "-0 and -0", -1, 0, nought, nought)
	oneIs(t, "-0 and -0 of another product", 3, nought, nought, nought)
	oneIs(t, "-0 and -0 times", nought, 5, nought, nought)
	oneIs(t, "-0 and a product that comes to -0", -two(-600), two(-600), nought, nought)
	oneIs(t, "+0 and a product that comes to -0", two(-600), -two(-600), 0, 0)
	oneIs(t, "-0 and a product that comes to +0", two(-600), two(-600), nought, 0)
	oneIs(t, "-0 and +0", 1, 0, nought, 0)
	oneIs(t, "+0 and -0", 1, nought, 0, 0)
	oneIs(t, "0 times a number leaves y", 0, 5, 7, 7)
	oneIs(t, "but not -0", 0, 5, nought, 0)
	oneIs(t, "-0 times a number below 0 neither", nought, -5, nought, 0)
	oneIs(t, "0 times a number below 0 leaves -0", 0, -5, nought, nought)
}

func TestAxpyOverflowsAndUnderflows(t *testing.T) {
	oneIs(t, "a product", two(600), two(600), 1, inf)
	oneIs(t, "a product below 0", two(600), -two(600), top, -inf)
	oneIs(t, "a sum", 1, top, top, inf)
	oneIs(t, "a sum below 0", -1, top, -top, -inf)
	oneIs(t, "by a half of the last bit", 1, two(970), top, inf)
	oneIs(t, "not by less", 1, math.Nextafter(two(970), 0), top, top)
	oneIs(t, "a product at the edge", 2, two(1023)-two(970), 0, top)
	oneIs(t, "a product one beyond it", 2, two(1023), 0, inf)
	oneIs(t, "the least product", two(-600), two(-474), 0, tiny)
	oneIs(t, "its half", two(-600), two(-475), 0, 0)
	oneIs(t, "more than its half", two(-600), two(-475)*(1+two(-52)), 0, tiny)
	oneIs(t, "three halves of it", -two(-600), 3*two(-475), 0, -2*tiny)
	oneIs(t, "subnormal numbers", 5, 3*tiny, -4*tiny, 11*tiny)
	oneIs(t, "to the least normal number", 1, tiny, two(-1022)-tiny, two(-1022))
	oneIs(t, "from the least normal number", -1, tiny, two(-1022), two(-1022)-tiny)
	oneIs(t, "a normal difference that is subnormal", -1, two(-1022), two(-1022)+tiny, tiny)
}

func TestAxpyOfInfinitiesAndNaNs(t *testing.T) {
	axpyIs(t, "infinities of x", 2, []float64{inf, -inf, 1}, []float64{1, 2, 3}, []float64{inf, -inf, 5})
	axpyIs(t, "infinities of y", 2, []float64{1, top, 1}, []float64{inf, -inf, 3}, []float64{inf, nan, 5})
	axpyIs(t, "of one sign", -2, []float64{inf, -inf}, []float64{-inf, inf}, []float64{-inf, inf})
	axpyIs(t, "of both signs", 2, []float64{inf, -inf}, []float64{-inf, inf}, []float64{nan, nan})
	axpyIs(t, "an infinite factor", inf, []float64{1, -1, 2, -3}, []float64{5, 6, -inf, -inf}, []float64{inf, -inf, nan, -inf})
	axpyIs(t, "0 times infinity", 0, []float64{inf, -inf, 1}, []float64{1, 2, 3}, []float64{nan, nan, 3})
	axpyIs(t, "-0 times infinity", nought, []float64{inf, -inf, 1}, []float64{1, 2, 3}, []float64{nan, nan, 3})
	axpyIs(t, "infinity times 0", -inf, []float64{0, nought, 1}, []float64{1, inf, 3}, []float64{nan, nan, -inf})
	axpyIs(t, "a NaN times", nan, []float64{0, 1, inf}, []float64{1, 0, -inf}, []float64{nan, nan, nan})
	for i := range 4 {
		x, y, want := []float64{1, 2, 3, 4}, []float64{10, 20, 30, 40}, []float64{12, 24, 36, 48}
		x[i], want[i] = nan, nan
		axpyIs(t, "a NaN of x", 2, x, y, want)
		axpyIs(t, "a NaN of x, times 0", 0, x[i:i+1], y[i:i+1], want[i:i+1])
		x[i], y[i] = 1, nan
		axpyIs(t, "a NaN of y", 2, x, y, want)
	}
}

// stepwise is y and a times x, each step rounded by itself; infinities and NaNs are left to the machine.
func stepwise(a, x, y float64) float64 {
	p := a * x
	if num.Finite(a, x) {
		p = product(a, x)
	}
	if num.Finite(p, y) {
		return plus(p, y)
	}
	return p + y
}

func TestAxpyOfAllKinds(t *testing.T) {
	for _, a := range odd() {
		for _, x := range odd() {
			want := make([]float64, len(odd()))
			for i, y := range odd() {
				want[i] = stepwise(a, x, y)
			}
			y := vec(odd()...)
			errorIs(t, "all kinds", axes.Axpy(a, vec(slices.Repeat([]float64{x}, len(want))...), y), api.OK)
			is(t, "all kinds", y.D, want)
		}
	}
}

func TestAxpyOfManyNumbers(t *testing.T) {
	for seed := range uint64(40) {
		for _, wide := range []int{1, 4, 30, 500} {
			x, y := anyFloats(seed+1, int(seed), wide), anyFloats(seed+100, int(seed), wide)
			a := anyFloats(seed+200, 1, wide)[0]
			want := make([]float64, len(x))
			for i := range want {
				want[i] = stepwise(a, x[i], y[i])
			}
			axpyIs(t, "many numbers", a, x, y, want)
		}
	}
}

func TestAxpyWithinOneList(t *testing.T) {
	d := vec(1, 10, 2, 20, 3, 30).D
	errorIs(t, "between one another", axes.Axpy(2, api.Vec{D: d, N: 3, Inc: 2}, api.Vec{D: d, Off: 1, N: 3, Inc: 2}), api.OK)
	is(t, "between one another", d, []float64{1, 12, 2, 24, 3, 36})
	d = vec(1, 2, 3, 4, 5, 6).D
	errorIs(t, "side by side", axes.Axpy(10, api.Vec{D: d, Off: 3, N: 3, Inc: 1}, api.Vec{D: d, N: 3, Inc: 1}), api.OK)
	is(t, "side by side", d, []float64{41, 52, 63, 4, 5, 6})
	errorIs(t, "lists of two lengths", axes.Axpy(1, api.Vec{D: d[:2], N: 2, Inc: 1}, api.Vec{D: d, Off: 2, N: 2, Inc: 3}), api.OK)
	is(t, "lists of two lengths", d, []float64{41, 52, 104, 4, 5, 58})
	m := view.Dense(2, 3, 1, 2, 3, 4, 5, 6)
	errorIs(t, "rows of a matrix", axes.Axpy(-4, view.Row(m, 0), view.Row(m, 1)), api.OK)
	is(t, "rows of a matrix", view.Numbers(m), []float64{1, 0, 2, -3, 3, -6})
	errorIs(t, "columns of a matrix", axes.Axpy(1, view.Col(m, 2), view.Col(m, 0)), api.OK)
	is(t, "columns of a matrix", view.Numbers(m), []float64{4, -6, 2, -3, 3, -6})
}

func TestAxpyOfVectorsThatMeet(t *testing.T) {
	was := []float64{1, 2, 3, 4, 5, 6}
	d := vec(was...).D
	v := func(off, n, inc int) api.Vec { return api.Vec{D: d, Off: off, N: n, Inc: inc} }
	for _, x := range [][2]api.Vec{
		{v(0, 3, 1), v(0, 3, 1)},
		{v(0, 6, 1), v(0, 6, 1)},
		{v(2, 1, 1), v(2, 1, most)},
		{v(0, 3, 1), v(1, 3, 1)},
		{v(0, 3, 2), v(3, 3, 1)},
		{v(0, 2, 5), v(5, 1, 1)},
		{v(0, 2, 5), v(4, 2, 1)},
		{v(1, 2, 4), {D: d[:2], N: 2, Inc: 1}},
	} {
		want := api.ErrApart
		if x[0].N != x[1].N {
			want = api.ErrSize
		}
		for _, a := range []float64{2, 0, 1, nan} {
			errorIs(t, "they meet", axes.Axpy(a, x[0], x[1]), want)
			errorIs(t, "they meet, turned about", axes.Axpy(a, x[1], x[0]), want)
		}
	}
	is(t, "vectors that meet", d, was)
}

func TestErrorsOfAxpy(t *testing.T) {
	for _, v := range wrong() {
		was := slices.Clone(v.D)
		for _, w := range []api.Vec{vec(), vec(1), vec(1, 2), vec(1, 2, 3, 4, 5, 6, 7), v} {
			kept := slices.Clone(w.D)
			errorIs(t, "x isn't right", axes.Axpy(2, v, w), api.ErrArg)
			errorIs(t, "y isn't right", axes.Axpy(2, w, v), api.ErrArg)
			is(t, "the right one", w.D, kept)
		}
		is(t, "one that isn't right", v.D, was)
	}
	for _, x := range [][2][]float64{{{1}, {1, 2}}, {{1, 2, 3}, {1, 2}}, {nil, {5}}, {{inf}, nil}} {
		a, b := vec(x[0]...), vec(x[1]...)
		errorIs(t, "N that differ", axes.Axpy(2, a, b), api.ErrSize)
		is(t, "N that differ, x", a.D, x[0])
		is(t, "N that differ, y", b.D, x[1])
	}
}

func TestWhichErrorOfAxpyComesFirst(t *testing.T) {
	was := []float64{1, 2, 3, 4, 5, 6}
	d := vec(was...).D
	v := func(off, n, inc int) api.Vec { return api.Vec{D: d, Off: off, N: n, Inc: inc} }
	errorIs(t, "x isn't right, N that differ, and they would meet", axes.Axpy(2, v(0, 7, 1), v(0, 2, 1)), api.ErrArg)
	errorIs(t, "y isn't right, N that differ, and they would meet", axes.Axpy(2, v(0, 2, 1), v(0, 7, 1)), api.ErrArg)
	errorIs(t, "N that differ, and they meet", axes.Axpy(2, v(0, 2, 1), v(0, 3, 1)), api.ErrSize)
	errorIs(t, "none against some", axes.Axpy(2, v(0, 0, 1), v(0, 3, 1)), api.ErrSize)
	is(t, "beside errors", d, was)
}

// P6.1: Scal

// scalIs looks whether x comes to want times a, however x is laid, and nothing else changes.
func scalIs(t *testing.T, what string, a float64, x, want []float64) {
	t.Helper()
	for _, w := range layings() {
		v := laid(w, x...)
		errorIs(t, what, axes.Scal(a, v), api.OK)
		is(t, what, v.D, laid(w, want...).D)
	}
}

func TestScal(t *testing.T) {
	scalIs(t, "three numbers", -0.5, []float64{12, 36, -3}, []float64{-6, -18, 1.5})
	scalIs(t, "one number", 3, []float64{7}, []float64{21})
	scalIs(t, "no numbers", 3, nil, nil)
	scalIs(t, "by 1", 1, odd(), odd())
	scalIs(t, "by -1", -1, []float64{0, nought, tiny, -inf, 5}, []float64{nought, 0, -tiny, inf, -5})
	scalIs(t, "by 0", 0, []float64{1, -1, 0, nought, top, -tiny, inf, -inf, nan}, []float64{0, nought, 0, nought, 0, nought, nan, nan, nan})
	scalIs(t, "by -0", nought, []float64{1, -1, 0, nought, top, -tiny, inf, -inf, nan}, []float64{nought, 0, nought, 0, nought, 0, nan, nan, nan})
	scalIs(t, "by NaN", nan, odd(), slices.Repeat([]float64{nan}, len(odd())))
	scalIs(t, "by infinity", inf, []float64{1, -tiny, 0, nought, inf, -inf, nan}, []float64{inf, -inf, nan, nan, inf, -inf, nan})
	scalIs(t, "by minus infinity", -inf, []float64{1, -tiny, 0, nought, inf, -inf, nan}, []float64{-inf, inf, nan, nan, -inf, inf, nan})
	scalIs(t, "overflow", 2, []float64{top, -two(1023), two(1023) - two(970), inf}, []float64{inf, -inf, top, inf})
	scalIs(t, "underflow", 0.5, []float64{tiny, 3 * tiny, -tiny, 5 * tiny, two(-1022), -7 * tiny}, []float64{0, 2 * tiny, nought, 2 * tiny, two(-1023), -4 * tiny})
	scalIs(t, "ties", 1+two(-1), []float64{1 + two(-52), 1 + 3*two(-52), -1 - two(-52)}, []float64{1.5 + two(-51), 1.5 + two(-50), -1.5 - two(-51)})
	scalIs(t, "a tenth", 0.1, []float64{3, 10, 0.1}, []float64{0.30000000000000004, 1, 0.010000000000000002})
}

func TestScalOfNoNumbersAnywhere(t *testing.T) {
	for _, v := range none() {
		was := slices.Clone(v.D)
		errorIs(t, "no numbers", axes.Scal(nan, v), api.OK)
		is(t, "no numbers", v.D, was)
	}
	v := vec(8, 5, 8)
	v.Off, v.N, v.Inc = 1, 1, most
	errorIs(t, "one number", axes.Scal(3, v), api.OK)
	is(t, "one number", v.D, []float64{8, 15, 8})
}

func TestScalWithANaNAtEachPlace(t *testing.T) {
	for i := range 4 {
		x, want := []float64{1, 2, 3, 4}, []float64{-2, -4, -6, -8}
		x[i], want[i] = nan, nan
		scalIs(t, "a NaN", -2, x, want)
	}
}

func TestScalOfAllKinds(t *testing.T) {
	for _, a := range odd() {
		want := make([]float64, len(odd()))
		for i, x := range odd() {
			if want[i] = a * x; num.Finite(a, x) {
				want[i] = product(a, x)
			}
		}
		scalIs(t, "all kinds", a, odd(), want)
	}
}

func TestErrorsOfScal(t *testing.T) {
	for _, v := range wrong() {
		was := slices.Clone(v.D)
		for _, a := range []float64{2, 0, 1, nan} {
			errorIs(t, "x isn't right", axes.Scal(a, v), api.ErrArg)
		}
		is(t, "one that isn't right", v.D, was)
	}
}

// P6.2: Shift

// shiftIs looks whether x comes to want by the exponents k, however x is laid, and nothing else changes.
func shiftIs(t *testing.T, what string, x []float64, k []int, want []float64) {
	t.Helper()
	kept := slices.Clone(k)
	for _, w := range layings() {
		v := laid(w, x...)
		errorIs(t, what, axes.Shift(v, k...), api.OK)
		is(t, what, v.D, laid(w, want...).D)
	}
	if !slices.Equal(k, kept) {
		t.Errorf("%s: the exponents are changed: %v", what, k)
	}
}

func TestShift(t *testing.T) {
	shiftIs(t, "three numbers", []float64{1, -6, 3}, []int{1, -1, 0}, []float64{2, -3, 3})
	shiftIs(t, "one number", []float64{0.75}, []int{10}, []float64{768})
	shiftIs(t, "no numbers", nil, nil, nil)
	shiftIs(t, "the same number by each place's own", []float64{1, 1, 1, 1}, []int{3, 0, -2, 52}, []float64{8, 1, 0.25, two(52)})
	shiftIs(t, "by 0", odd(), make([]int, len(odd())), odd())
	v := vec(1, 2)
	errorIs(t, "told one by one", axes.Shift(v, 2, -2), api.OK)
	is(t, "told one by one", v.D, []float64{4, 0.5})
}

func TestShiftOfNoNumbersAnywhere(t *testing.T) {
	for _, v := range none() {
		was := slices.Clone(v.D)
		errorIs(t, "no numbers", axes.Shift(v), api.OK)
		errorIs(t, "no numbers", axes.Shift(v, []int{}...), api.OK)
		is(t, "no numbers", v.D, was)
	}
	v := vec(8, 5, 8)
	v.Off, v.N, v.Inc = 1, 1, most
	errorIs(t, "one number", axes.Shift(v, 1), api.OK)
	is(t, "one number", v.D, []float64{8, 10, 8})
}

func TestShiftBeyondTheGreatestNumber(t *testing.T) {
	shiftIs(t, "up to the greatest", []float64{1, -1, 1 - two(-53), tiny, -tiny}, []int{1023, 1023, 1024, 2097, 1074}, []float64{two(1023), -two(1023), top, two(1023), -1})
	shiftIs(t, "beyond it", []float64{1, -1, top, tiny, -tiny}, []int{1024, 1024, 1, 2098, 2098}, []float64{inf, -inf, inf, inf, -inf})
	shiftIs(t, "back from there", []float64{two(1023), -top}, []int{-1023, -1024}, []float64{1, two(-53) - 1})
}

func TestShiftBelowTheLeastNumber(t *testing.T) {
	shiftIs(t, "down to the least", []float64{1, -1, 3, top}, []int{-1074, -1074, -1074, -1}, []float64{tiny, -tiny, 3 * tiny, two(1023) - two(970)})
	shiftIs(t, "halfway, to even", []float64{3, 1, -1, 5, 7, -3}, []int{-1075, -1075, -1075, -1075, -1075, -1075}, []float64{2 * tiny, 0, nought, 2 * tiny, 4 * tiny, -2 * tiny})
	shiftIs(t, "beside the half", []float64{1 + two(-52), 1 - two(-53), -1 - two(-52)}, []int{-1075, -1075, -1075}, []float64{tiny, 0, -tiny})
	shiftIs(t, "of subnormal numbers", []float64{tiny, 3 * tiny, 6 * tiny, -tiny}, []int{-1, -1, -2, 1}, []float64{0, 2 * tiny, 2 * tiny, -2 * tiny})
	shiftIs(t, "rounded once, from numbers of many digits", []float64{math.Float64frombits(1<<52 | 1), math.Float64frombits(1<<52 | 3)}, []int{-1, -1}, []float64{two(-1023), two(-1023) + 2*tiny})
	shiftIs(t, "rounded up to a normal number", []float64{two(-1021) - tiny, 1 - two(-53)}, []int{-1, -1022}, []float64{two(-1022), two(-1022)})
}

func TestShiftOfNoughtsInfinitiesAndNaNs(t *testing.T) {
	x := []float64{0, nought, inf, -inf, nan}
	for _, k := range []int{least, -5000, -1075, -1, 0, 1, 1024, 5000, most} {
		shiftIs(t, "what no power of 2 changes", x, slices.Repeat([]int{k}, len(x)), x)
	}
}

func TestShiftFarOut(t *testing.T) {
	x := []float64{1, -1, tiny, -tiny, top, -top}
	for _, k := range []int{least, least + 1, least + 1100, -1 << 62, -1 << 32, -1 << 31, -4096, -2100} {
		shiftIs(t, "far below", x, slices.Repeat([]int{k}, len(x)), []float64{0, nought, 0, nought, 0, nought})
	}
	for _, k := range []int{most, most - 1, most - 1100, 1 << 62, 1 << 32, 1 << 31, 4096, 2100} {
		shiftIs(t, "far above", x, slices.Repeat([]int{k}, len(x)), []float64{inf, -inf, inf, -inf, inf, -inf})
	}
	shiftIs(t, "of one vector", []float64{1, 1, 1, 0, inf}, []int{most, least, 0, most, least}, []float64{inf, 0, 1, 0, inf})
}

func TestShiftIsScale(t *testing.T) {
	for k := -2200; k <= 2200; k += 7 {
		ks, want := make([]int, len(odd())), make([]float64, len(odd()))
		for i, x := range odd() {
			ks[i] = k + i
			want[i] = num.Scale(x, k+i)
		}
		shiftIs(t, "all kinds", odd(), ks, want)
	}
}

func TestErrorsOfShift(t *testing.T) {
	for _, v := range wrong() {
		was := slices.Clone(v.D)
		for _, k := range [][]int{nil, {1}, {1, 1}, {1, 1, 1}, {1, 1, 1, 1, 1}, {1, 1, 1, 1, 1, 1, 1}} {
			errorIs(t, "x isn't right, whatever the exponents", axes.Shift(v, k...), api.ErrArg)
		}
		is(t, "one that isn't right", v.D, was)
	}
	for n := range 5 {
		for many := range 7 {
			x := []float64{1, 2, 3, 4}[:n]
			for _, w := range layings() {
				v := laid(w, x...)
				if n != many {
					errorIs(t, "too few or too many exponents", axes.Shift(v, slices.Repeat([]int{1}, many)...), api.ErrSize)
				}
				is(t, "too few or too many exponents", v.D, laid(w, x...).D)
			}
		}
	}
	for _, v := range none() {
		errorIs(t, "exponents of no numbers", axes.Shift(v, 0), api.ErrSize)
	}
}

// P6.2: Sign

// signIs looks whether the signs of x are want, however x is laid, in new memory each, and x is as it was.
func signIs(t *testing.T, what string, x, want []float64) {
	t.Helper()
	for _, w := range layings() {
		v := laid(w, x...)
		s, e := axes.Sign(v)
		errorIs(t, what, e, api.OK)
		if !slices.EqualFunc(s, want, num.Same) {
			t.Errorf("%s: %v, not %v", what, s, want)
		}
		for i := range s {
			s[i] = 9
		}
		is(t, what+", x", v.D, laid(w, x...).D)
		again, _ := axes.Sign(v)
		if !slices.EqualFunc(again, want, num.Same) {
			t.Errorf("%s, again: %v, not %v", what, again, want)
		}
	}
}

func TestSign(t *testing.T) {
	signIs(t, "three numbers", []float64{5, -2, 0.25}, []float64{1, -1, 1})
	signIs(t, "one number", []float64{-3}, []float64{-1})
	signIs(t, "no numbers", nil, nil)
	signIs(t, "noughts", []float64{0, nought}, []float64{1, 1})
	signIs(t, "infinities", []float64{inf, -inf}, []float64{1, -1})
	signIs(t, "NaNs", []float64{nan, -nan, math.Copysign(nan, 1), math.Copysign(nan, -1)}, []float64{-1, -1, -1, -1})
	signIs(t, "small and great", []float64{tiny, -tiny, top, -top}, []float64{1, -1, 1, -1})
	for i := range 4 {
		x := []float64{1, 2, 3, 4}
		for _, y := range []float64{nan, -1, -inf} {
			x[i] = y
			want := []float64{1, 1, 1, 1}
			want[i] = -1
			signIs(t, "at each place", x, want)
		}
	}
}

func TestSignOfNoNumbersAnywhere(t *testing.T) {
	for _, v := range none() {
		if s, e := axes.Sign(v); e != api.OK || len(s) != 0 {
			t.Errorf("no numbers: %v, error %d", s, int(e))
		}
	}
	if s, e := axes.Sign(api.Vec{D: []float64{1, -5}, Off: 1, N: 1, Inc: most}); e != api.OK || !slices.Equal(s, []float64{-1}) {
		t.Errorf("one number: %v, error %d", s, int(e))
	}
}

func TestErrorsOfSign(t *testing.T) {
	for _, v := range wrong() {
		was := slices.Clone(v.D)
		if s, e := axes.Sign(v); e != api.ErrArg || len(s) != 0 {
			t.Errorf("of %v: %v, error %d", v, s, int(e))
		}
		is(t, "one that isn't right", v.D, was)
	}
}

// P1

func TestEveryCallEnds(t *testing.T) {
	edges := []int{least, -1, 0, 1, 2, 3, 4, 1 << 31, 1 << 62, most - 1, most}
	for _, list := range [][]float64{nil, {1, 2, 3, 4}} {
		for _, off := range edges {
			for _, n := range edges {
				for _, inc := range edges {
					anyVector(t, api.Vec{D: slices.Clone(list), Off: off, N: n, Inc: inc})
				}
			}
		}
	}
}

// anyVector looks whether each call tells of v, of up to 4 numbers, whether it is right.
func anyVector(t *testing.T, v api.Vec) {
	t.Helper()
	scaled, shifted, other := api.OK, api.OK, api.OK
	if !view.Right(v) {
		scaled, shifted, other = api.ErrArg, api.ErrArg, api.ErrArg
	} else if v.N != 2 {
		shifted, other = api.ErrSize, api.ErrSize
	}
	errorIs(t, "Scal", axes.Scal(2, v), scaled)
	errorIs(t, "Shift", axes.Shift(v, 1, -1), shifted)
	errorIs(t, "Axpy to another", axes.Axpy(2, v, vec(1, 2)), other)
	errorIs(t, "Axpy of another", axes.Axpy(2, vec(1, 2), v), other)
	_, e := axes.Sign(v)
	errorIs(t, "Sign", e, scaled)
	if view.Right(v) && v.N > 0 {
		scaled = api.ErrApart
	}
	errorIs(t, "Axpy to itself", axes.Axpy(2, v, v), scaled)
}
