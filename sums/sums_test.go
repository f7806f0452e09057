package sums_test

import (
	"math"
	"math/big"
	"slices"
	"testing"

	"straightedge/api"
	"straightedge/num"
	"straightedge/sums"
)

const (
	most  = math.MaxInt
	least = math.MinInt
	top   = math.MaxFloat64
	tiny  = math.SmallestNonzeroFloat64
)

var (
	inf    = math.Inf(1)
	nan    = math.NaN()
	nought = math.Copysign(0, -1)
)

// two is 2^k.
func two(k int) float64 { return math.Ldexp(1, k) }

// vec is a vector of the numbers l, with room of numbers behind its list that nobody may read or write.
func vec(l ...float64) api.Vec {
	d := append(slices.Clone(l), nan, nan, nan)
	return api.Vec{D: d[:len(l)], N: len(l), Inc: 1}
}

// apart is a vector of the numbers l, off places from the beginning of its list and inc apart, with NaNs everywhere else.
func apart(off, inc int, l ...float64) api.Vec {
	d := make([]float64, off+len(l)*inc)
	for i := range d {
		d[i] = nan
	}
	for i, x := range l {
		d[off+i*inc] = x
	}
	if len(l) > 0 {
		d = d[:off+(len(l)-1)*inc+1]
	}
	return api.Vec{D: d, Off: off, N: len(l), Inc: inc}
}

// laid are vectors of the numbers l, laid in lists in several ways.
func laid(l ...float64) []api.Vec {
	return []api.Vec{vec(l...), apart(3, 1, l...), apart(0, 2, l...), apart(1, 3, l...)}
}

// wrong are vectors that aren't right, each by a thing of its own.
func wrong() []api.Vec {
	d := []float64{1, 2, 3, 4, 5, 6}
	return []api.Vec{
		{},
		{D: d},
		{D: d, N: 2},
		{D: d, N: 2, Inc: -1},
		{D: d, N: -1, Inc: 1},
		{D: d, N: 2, Off: -1, Inc: 1},
		{D: d, Off: -1, Inc: 1},
		{D: d, N: 7, Inc: 1},
		{D: d[:2], N: 3, Inc: 1},
		{D: d, N: 3, Inc: 3},
		{D: d, N: 5, Inc: 1 << 62},
		{D: d, N: 2, Off: most, Inc: most},
		{D: d, N: most, Inc: 1},
		{D: d, N: least, Inc: least, Off: least},
		{N: 1, Inc: 1},
	}
}

// anyFloats are n floats that look like chance and are the same each time: their Exps are about from -wide to wide.
func anyFloats(seed uint64, n, wide int) []float64 {
	l := make([]float64, n)
	for i := range l {
		seed = seed*6364136223846793005 + 1442695040888963407
		x := float64(int64(seed)) / (1 << 63)
		seed = seed*6364136223846793005 + 1442695040888963407
		l[i] = math.Ldexp(x, int(seed>>33)%(2*wide+1)-wide)
	}
	return l
}

// exactly is x, with room for all digits of sums and products of a few floats.
func exactly(x float64) *big.Float { return new(big.Float).SetPrec(5000).SetFloat64(x) }

// product and plus are what IEEE 754 makes of finite numbers: exactly, then rounded once.
func product(x, y float64) float64 {
	p, _ := new(big.Float).SetPrec(5000).Mul(exactly(x), exactly(y)).Float64()
	return p
}

func plus(x, y float64) float64 {
	s, _ := new(big.Float).SetPrec(5000).Add(exactly(x), exactly(y)).Float64()
	return s
}

// total is the sum of l in its order; no number and no sum of it is other than finite.
func total(l []float64) float64 {
	s := 0.0
	for _, x := range l {
		s = plus(s, x)
	}
	return s
}

// products are the rounded products of x's and y's numbers, one by one.
func products(x, y []float64) []float64 {
	l := make([]float64, len(x))
	for i := range l {
		l[i] = product(x[i], y[i])
	}
	return l
}

// absolutes are l's numbers without their signs.
func absolutes(l []float64) []float64 {
	r := slices.Clone(l)
	for i, x := range r {
		r[i] = math.Float64frombits(math.Float64bits(x) &^ (1 << 63))
	}
	return r
}

// floatIs looks whether a call came to a number, and to no error.
func floatIs(t *testing.T, what string, got float64, e api.Errno, want float64) {
	t.Helper()
	if !num.Same(got, want) || e != api.OK {
		t.Errorf("%s: %v (%s), error %d; not %v (%s)", what, got, num.Hex(got), int(e), want, num.Hex(want))
	}
}

// fails looks whether a call of a sum told that error, and +0 beside it.
func fails(t *testing.T, what string, got float64, e, want api.Errno) {
	t.Helper()
	if !num.Same(got, 0) || e != want {
		t.Errorf("%s: %v, error %d; not 0, error %d", what, got, int(e), int(want))
	}
}

func dotIs(t *testing.T, what string, x, y []float64, want float64) {
	t.Helper()
	for _, v := range laid(x...) {
		for _, w := range laid(y...) {
			got, e := sums.Dot(v, w)
			floatIs(t, "Dot, "+what, got, e, want)
		}
	}
}

func asumIs(t *testing.T, what string, l []float64, want float64) {
	t.Helper()
	for _, v := range laid(l...) {
		got, e := sums.Asum(v)
		floatIs(t, "Asum, "+what, got, e, want)
	}
}

// adds looks at a list that comes to want, if it is added by Sum, and by Dot as products with 1.
func adds(t *testing.T, what string, l []float64, want float64) {
	t.Helper()
	floatIs(t, "Sum, "+what, sums.Sum(l...), api.OK, want)
	dotIs(t, what, l, slices.Repeat([]float64{1}, len(l)), want)
}

// P5.1

func TestDot(t *testing.T) {
	dotIs(t, "three numbers", []float64{1, 2, 3}, []float64{4, 5, 6}, 32)
	dotIs(t, "one number", []float64{-3}, []float64{0.5}, -1.5)
	dotIs(t, "no numbers", nil, nil, 0)
	dotIs(t, "of both signs", []float64{1, -2, 3}, []float64{-4, -5, 0.25}, 6.75)
}

func TestDotOfNoNumbersAnywhere(t *testing.T) {
	for _, v := range []api.Vec{{Inc: 1}, {Inc: most, Off: most}, {D: []float64{nan}, Inc: 1}, {D: []float64{nan}, Inc: 2, Off: 9}} {
		got, e := sums.Dot(v, api.Vec{Inc: 1})
		floatIs(t, "Dot of no numbers", got, e, 0)
		got, e = sums.Dot(vec(), v)
		floatIs(t, "Dot of no numbers", got, e, 0)
		got, e = sums.Asum(v)
		floatIs(t, "Asum of no numbers", got, e, 0)
	}
}

func TestSum(t *testing.T) {
	adds(t, "none", nil, 0)
	adds(t, "one", []float64{-0.1}, -0.1)
	adds(t, "two", []float64{1, 2}, 3)
	adds(t, "tenths", []float64{0.1, 0.2, 0.3}, 0.6000000000000001)
	adds(t, "tenths turned about", []float64{0.3, 0.2, 0.1}, 0.6)
	floatIs(t, "Sum()", sums.Sum(), api.OK, 0)
	floatIs(t, "Sum of many", sums.Sum(slices.Repeat([]float64{0.1}, 10)...), api.OK, 0.9999999999999999)
}

func TestAsum(t *testing.T) {
	asumIs(t, "three numbers", []float64{-1, 2, -3}, 6)
	asumIs(t, "one number", []float64{-7}, 7)
	asumIs(t, "no numbers", nil, 0)
	asumIs(t, "tenths", []float64{-0.1, 0.2, -0.3}, 0.6000000000000001)
	asumIs(t, "tenths turned about", []float64{0.3, -0.2, 0.1}, 0.6)
}

func TestOrderShowsInTheLastBits(t *testing.T) {
	a := two(53)
	adds(t, "ones behind", []float64{a, 1, 1}, a)
	adds(t, "ones ahead", []float64{1, 1, a}, a+2)
	adds(t, "the ones around", []float64{1, a, 1}, a)
	adds(t, "pairs would keep the ones", []float64{a, 1, 1, 1}, a)
	adds(t, "ones behind what cancels", []float64{a, 1, 1, -a, 1, 1}, 2)
	adds(t, "the 1 is lost", []float64{1e16, 1, -1e16}, 0)
	adds(t, "the 1 is kept", []float64{1e16, -1e16, 1}, 1)
	adds(t, "two sums side by side would keep it", []float64{a, 1, -a, 1}, 1)
	asumIs(t, "ones behind", []float64{-a, 1, -1}, a)
	asumIs(t, "ones ahead", []float64{1, -1, -a}, a+2)
	dotIs(t, "products", []float64{two(30), 1, -1}, []float64{two(23), 1, -1}, a)
	dotIs(t, "products turned about", []float64{-1, 1, two(30)}, []float64{-1, 1, two(23)}, a+2)
}

func TestTiesGoToEven(t *testing.T) {
	adds(t, "down", []float64{1, two(-53)}, 1)
	adds(t, "up", []float64{1 + two(-52), two(-53)}, 1+two(-51))
	adds(t, "more than the half", []float64{1, two(-53) + two(-105)}, 1+two(-52))
	asumIs(t, "down", []float64{-1, two(-53)}, 1)
	dotIs(t, "a product, down", []float64{1 + two(-27)}, []float64{1 + two(-26)}, 1+two(-27)+two(-26))
	dotIs(t, "a product, up", []float64{3 * (1 + two(-52))}, []float64{0.5}, 1.5+two(-51))
}

func TestNothingIsFused(t *testing.T) {
	x := 1 + two(-30) // its square is 1 + 2^-29 + 2^-60, rounded without the last
	dotIs(t, "the rest of a square", []float64{-1 - two(-29), x}, []float64{1, x}, 0)
	dotIs(t, "two products without their last digits", []float64{x, x}, []float64{x, -1 - two(-29)}, -two(-30))
	dotIs(t, "two squares that cancel out", []float64{x, x}, []float64{x, -x}, 0)
	dotIs(t, "in the middle", []float64{3, x, -1}, []float64{-1, x, 1}, -3+two(-29))
	dotIs(t, "a product too great for a float", []float64{-top, two(1000)}, []float64{1, two(24)}, inf)
	dotIs(t, "products too small for a float", []float64{two(-600), two(-600)}, []float64{two(-475), two(-475)}, 0)
	dotIs(t, "and with something there", []float64{tiny, two(-600)}, []float64{1, 1.5 * two(-475)}, 2*tiny)
	dotIs(t, "a half of the last bit", []float64{tiny, two(-600)}, []float64{1, two(-475)}, tiny)
}

func TestSubnormalProducts(t *testing.T) {
	dotIs(t, "the least", []float64{two(-600)}, []float64{two(-474)}, tiny)
	dotIs(t, "its half", []float64{two(-600)}, []float64{two(-475)}, 0)
	dotIs(t, "more than its half", []float64{two(-600)}, []float64{two(-475) * (1 + two(-52))}, tiny)
	dotIs(t, "three halves of it", []float64{-two(-600)}, []float64{3 * two(-475)}, -2*tiny)
	dotIs(t, "of subnormals", []float64{tiny, -3 * tiny}, []float64{4, 5}, -11*tiny)
	dotIs(t, "of subnormals alone", []float64{tiny}, []float64{tiny}, 0)
	dotIs(t, "at the least normal number", []float64{two(-1022) - tiny, tiny}, []float64{1, 1}, two(-1022))
	asumIs(t, "subnormals", []float64{tiny, -tiny, -3 * tiny}, 5*tiny)
	floatIs(t, "Sum of subnormals", sums.Sum(tiny, -3*tiny), api.OK, -2*tiny)
}

func TestSumsOfNoughts(t *testing.T) {
	adds(t, "+0", []float64{0}, 0)
	adds(t, "-0", []float64{nought}, 0) // a sum begins with +0, and +0 and -0 are +0
	adds(t, "-0 twice", []float64{nought, nought}, 0)
	adds(t, "cancels from above", []float64{1, -1}, 0)
	adds(t, "cancels from below", []float64{-1, 1}, 0)
	adds(t, "cancels, then -0", []float64{-1, 1, nought}, 0)
	adds(t, "-0, then cancels", []float64{nought, tiny, -tiny}, 0)
	asumIs(t, "noughts", []float64{nought, 0, nought}, 0)
	asumIs(t, "-0", []float64{nought}, 0)
	dotIs(t, "products that are -0", []float64{-1, 0, nought}, []float64{0, -2, 3}, 0)
	dotIs(t, "products that are +0", []float64{-1, nought, 0}, []float64{nought, -2, 3}, 0)
	dotIs(t, "a product that comes to -0", []float64{-two(-600)}, []float64{two(-600)}, 0)
}

func TestSumsThatOverflow(t *testing.T) {
	adds(t, "and don't come back", []float64{top, top, -top, -top}, inf)
	adds(t, "below", []float64{-top, -top, top}, -inf)
	adds(t, "turned about, they don't", []float64{top, -top, top}, top)
	adds(t, "by a half of the last bit", []float64{top, two(970)}, inf)
	adds(t, "not by less", []float64{top, math.Nextafter(two(970), 0)}, top)
	adds(t, "and meet what is below", []float64{top, top, -inf}, nan)
	asumIs(t, "both signs", []float64{top, -top, top}, inf)
	asumIs(t, "just not", []float64{-top, two(969)}, top)
	dotIs(t, "products", []float64{two(600), two(600)}, []float64{two(600), 1}, inf)
	dotIs(t, "products of both signs", []float64{two(600), two(600)}, []float64{two(600), -two(600)}, nan)
	dotIs(t, "products and then a sum", []float64{two(1023), two(1000), -two(1023)}, []float64{1, two(23), 1}, inf)
}

func TestInfinitiesAndNaNs(t *testing.T) {
	adds(t, "one", []float64{1, inf, -1}, inf)
	adds(t, "one sign", []float64{-inf, 5, -inf}, -inf)
	adds(t, "both signs", []float64{inf, -inf}, nan)
	adds(t, "both signs, then more", []float64{-inf, inf, inf, 1}, nan)
	asumIs(t, "both signs", []float64{inf, -inf, 1}, inf)
	asumIs(t, "below", []float64{-inf}, inf)
	dotIs(t, "by their signs", []float64{inf, -inf}, []float64{2, -3}, inf)
	dotIs(t, "of both signs", []float64{inf, -inf}, []float64{2, 3}, nan)
	dotIs(t, "times one another", []float64{inf, 7}, []float64{-inf, 1}, -inf)
	for _, zero := range []float64{0, nought} {
		for _, far := range []float64{inf, -inf} {
			dotIs(t, "0 times infinity", []float64{1, zero}, []float64{1, far}, nan)
			dotIs(t, "infinity times 0", []float64{far, 1}, []float64{zero, 1}, nan)
		}
	}
	for i := range 4 {
		l := []float64{1, -2, inf, 0}
		l[i] = nan
		adds(t, "a NaN", l, nan)
		asumIs(t, "a NaN", l, nan)
		dotIs(t, "a NaN on the right", []float64{1, 2, 3, 4}, l, nan)
		dotIs(t, "a NaN times 0", []float64{0, 0, 1, nought}, l, nan)
	}
}

func TestSumsOfManyNumbers(t *testing.T) {
	for seed := range uint64(40) {
		for _, wide := range []int{1, 4, 30, 60} {
			x := anyFloats(seed+1, int(seed), wide)
			y := anyFloats(seed+100, int(seed), wide)
			adds(t, "many numbers", x, total(x))
			asumIs(t, "many numbers", x, total(absolutes(x)))
			dotIs(t, "many numbers", x, y, total(products(x, y)))
		}
	}
}

func TestSumsOfManySmallNumbers(t *testing.T) {
	for seed := range uint64(40) {
		x := anyFloats(seed+1, int(seed), 8)
		y := anyFloats(seed+100, int(seed), 8)
		for i := range x {
			x[i], y[i] = math.Ldexp(x[i], -530), math.Ldexp(y[i], -530)
		}
		dotIs(t, "products about 2^-1060", x, y, total(products(x, y)))
		for i := range x {
			x[i] = math.Ldexp(x[i], -535)
		}
		adds(t, "numbers about 2^-1065", x, total(x))
		asumIs(t, "numbers about 2^-1065", x, total(absolutes(x)))
	}
}

func TestVectorsInOneList(t *testing.T) {
	d := []float64{1, 2, 3, 4, 5, 6}
	for _, a := range inOneList(d) {
		for _, b := range inOneList(d) {
			got, e := sums.Dot(a.v, b.v)
			floatIs(t, "Dot of two in one list", got, e, total(products(a.l, b.l)))
		}
	}
	if !slices.Equal(d, []float64{1, 2, 3, 4, 5, 6}) {
		t.Error("changed by being read:", d)
	}
}

type listed struct {
	v api.Vec
	l []float64
}

// inOneList are vectors of three numbers within a list of 1 to 6, each with its numbers.
func inOneList(d []float64) []listed {
	return []listed{
		{api.Vec{D: d, N: 3, Inc: 1}, []float64{1, 2, 3}},
		{api.Vec{D: d, Off: 1, N: 3, Inc: 1}, []float64{2, 3, 4}},
		{api.Vec{D: d, N: 3, Inc: 2}, []float64{1, 3, 5}},
		{api.Vec{D: d, Off: 1, N: 3, Inc: 2}, []float64{2, 4, 6}},
		{api.Vec{D: d[:5], Off: 2, N: 3, Inc: 1}, []float64{3, 4, 5}},
	}
}

func TestErrorsOfDot(t *testing.T) {
	for _, v := range wrong() {
		for _, w := range []api.Vec{vec(), vec(1), vec(1, 2), vec(1, 2, 3, 4, 5, 6, 7), v} {
			s, e := sums.Dot(v, w)
			fails(t, "Dot with a first one that isn't right", s, e, api.ErrArg)
			s, e = sums.Dot(w, v)
			fails(t, "Dot with a second one that isn't right", s, e, api.ErrArg)
		}
	}
	for _, x := range [][2]api.Vec{{vec(1), vec(1, 2)}, {vec(1, 2, 3), vec(1, 2)}, {vec(), vec(nan)}, {vec(inf), vec()}, {apart(2, 3, 1, 2), vec(1)}} {
		s, e := sums.Dot(x[0], x[1])
		fails(t, "Dot of two lengths", s, e, api.ErrSize)
	}
}

func TestErrorsOfAsum(t *testing.T) {
	for _, v := range wrong() {
		s, e := sums.Asum(v)
		fails(t, "Asum of what isn't right", s, e, api.ErrArg)
	}
}

// P5.2

func mostIs(t *testing.T, l []float64, want int) {
	t.Helper()
	for _, v := range laid(l...) {
		if k, e := sums.Most(v); k != want || e != api.OK {
			t.Errorf("Most of %v: %d, error %d; not %d", l, k, int(e), want)
		}
	}
}

func TestMost(t *testing.T) {
	mostIs(t, nil, -1)
	mostIs(t, []float64{0}, 0)
	mostIs(t, []float64{-5}, 0)
	mostIs(t, []float64{nan}, 0)
	mostIs(t, []float64{1, -3, 3}, 1)
	mostIs(t, []float64{1, 3, -3, 3}, 1)
	mostIs(t, []float64{1, 2, -4, 3}, 2)
	mostIs(t, []float64{0, nought, 0}, 0)
	mostIs(t, []float64{nought, 0, -tiny}, 2)
	mostIs(t, []float64{1, 1 + two(-52), 1}, 1)
	mostIs(t, []float64{top, -inf, inf}, 1)
	mostIs(t, []float64{nan, 5, inf}, 0)
	mostIs(t, []float64{1, nan, 5}, 2)
	mostIs(t, []float64{7, nan, 5}, 0)
	mostIs(t, []float64{0, nan}, 0)
	mostIs(t, []float64{1, nan, -2, nan, 2}, 2)
}

func TestMostOfNoNumbersAnywhere(t *testing.T) {
	for _, v := range []api.Vec{{Inc: 1}, {Inc: most, Off: most}, {D: []float64{5}, Inc: 2, Off: 9}} {
		if k, e := sums.Most(v); k != -1 || e != api.OK {
			t.Errorf("Most of %v: %d, error %d", v, k, int(e))
		}
	}
}

// lists are all lists of up to n numbers of those.
func lists(n int, of ...float64) [][]float64 {
	all := [][]float64{nil}
	for from, k := 0, 0; k < n; k++ {
		last := len(all)
		for _, l := range all[from:last] {
			for _, x := range of {
				all = append(all, append(slices.Clone(l), x))
			}
		}
		from = last
	}
	return all
}

// place is what the document's words make of Most: a NaN at place 0 stays, later ones are never taken, so they are as noughts.
func place(l []float64) int {
	a := absolutes(l)
	if len(a) == 0 {
		return -1
	}
	if a[0] != a[0] {
		return 0
	}
	for i, x := range a {
		if x != x {
			a[i] = 0
		}
	}
	return slices.Index(a, slices.Max(a))
}

func TestMostOfAll(t *testing.T) {
	for _, l := range lists(4, 0, nought, tiny, -tiny, 1, -1, 2, inf, -inf, nan) {
		if k, e := sums.Most(vec(l...)); k != place(l) || e != api.OK {
			t.Fatalf("Most of %v: %d, error %d; not %d", l, k, int(e), place(l))
		}
	}
	for seed := range uint64(40) {
		l := anyFloats(seed+1, int(seed), 2)
		mostIs(t, l, place(l))
	}
}

func TestErrorsOfMost(t *testing.T) {
	for _, v := range wrong() {
		if k, e := sums.Most(v); k != -1 || e != api.ErrArg {
			t.Errorf("Most of %v: %d, error %d", v, k, int(e))
		}
	}
}

func TestGreatest(t *testing.T) {
	for _, x := range []struct {
		l    []float64
		want float64
	}{
		{nil, 0},
		{[]float64{0}, 0},
		{[]float64{nought}, 0},
		{[]float64{nought, 0, nought}, 0},
		{[]float64{-1, -2}, 0},
		{[]float64{-inf}, 0},
		{[]float64{-3, nought}, 0},
		{[]float64{5}, 5},
		{[]float64{tiny, -1}, tiny},
		{[]float64{1, 3, 2, 3}, 3},
		{[]float64{1, 1 + two(-52)}, 1 + two(-52)},
		{[]float64{top, inf, 1}, inf},
		{[]float64{nan}, nan},
		{[]float64{nan, 1}, nan},
		{[]float64{1, nan}, nan},
		{[]float64{1, nan, inf}, nan},
		{[]float64{inf, nan, -1}, nan},
	} {
		floatIs(t, "Greatest", sums.Greatest(x.l...), api.OK, x.want)
	}
	floatIs(t, "Greatest()", sums.Greatest(), api.OK, 0)
}

func TestGreatestOfAll(t *testing.T) {
	for _, l := range lists(4, 0, nought, tiny, -tiny, 1, -1, 2, inf, -inf, nan) {
		want := 0.0
		switch sorted := slices.Sorted(slices.Values(l)); { // sorted, a NaN comes first
		case slices.ContainsFunc(l, math.IsNaN):
			want = nan
		case len(l) > 0 && sorted[len(l)-1] > 0:
			want = sorted[len(l)-1]
		}
		if got := sums.Greatest(l...); !num.Same(got, want) {
			t.Fatalf("Greatest of %v: %v, not %v", l, got, want)
		}
	}
}

// P1, R4

func TestEveryCallEnds(t *testing.T) {
	edges := []int{least, -1, 0, 1, 2, 3, 4, 1 << 31, 1 << 62, most - 1, most}
	for _, d := range [][]float64{nil, {}, {1, 2, 3, 4}} {
		for _, off := range edges {
			for _, n := range edges {
				for _, inc := range edges {
					v := api.Vec{D: d, Off: off, N: n, Inc: inc}
					right := inc > 0 && off >= 0 && (n == 0 || n > 0 && n <= 4 && inc <= 4 && off <= 4 && off+(n-1)*inc < len(d))
					// Of one number, Inc may be anything from 1 on.
					right = right || n == 1 && inc > 0 && off >= 0 && off < len(d)
					anyVector(t, v, right)
				}
			}
		}
	}
}

// anyVector looks whether each call tells of v what it should, and whether it is right.
func anyVector(t *testing.T, v api.Vec, right bool) {
	t.Helper()
	want := api.OK
	if !right {
		want = api.ErrArg
	}
	if _, e := sums.Dot(v, v); e != want {
		t.Errorf("Dot of %v: error %d", v, int(e))
	}
	if _, e := sums.Asum(v); e != want {
		t.Errorf("Asum of %v: error %d", v, int(e))
	}
	k, e := sums.Most(v)
	if e != want || (k == -1) != (!right || v.N == 0) {
		t.Errorf("Most of %v: %d, error %d", v, k, int(e))
	}
}

func TestNothingIsChanged(t *testing.T) {
	l := []float64{-3, nought, 0.1, -inf, tiny}
	x, y, kept := vec(l...), vec(l...), slices.Clone(l)
	sums.Dot(x, y)
	sums.Asum(x)
	sums.Most(x)
	sums.Sum(l...)
	sums.Greatest(l...)
	for _, d := range [][]float64{x.D, y.D, l} {
		if !slices.EqualFunc(d, kept, num.Same) {
			t.Errorf("changed: %v", d)
		}
	}
	for _, b := range append(x.D[len(x.D):cap(x.D)], y.D[len(y.D):cap(y.D)]...) {
		if b != 0 && b == b {
			t.Errorf("written behind the list: %v", b)
		}
	}
}
