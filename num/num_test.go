package num

import (
	"math"
	"math/big"
	"slices"
	"strings"
	"testing"

	"straightedge/api"
)

const (
	tiny = math.SmallestNonzeroFloat64 // 2^-1074
	huge = math.MaxFloat64
)

var (
	inf     = math.Inf(1)
	nan     = math.NaN()
	nought  = math.Copysign(0, -1)
	norm    = math.Float64frombits(1 << 52)   // 2^-1022
	subnorm = math.Float64frombits(1<<52 - 1) // the greatest below it
	nans    = []float64{
		nan, -nan,
		math.Float64frombits(0x7ff0000000000001), math.Float64frombits(0xfff0000000000001),
		math.Float64frombits(0x7fffffffffffffff), math.Float64frombits(0xffffffffffffffff),
		math.Float64frombits(0x7ff8000000000000), math.Float64frombits(0x7ff4000012345678),
	}
	infinities = []float64{inf, -inf}
	noughts    = []float64{0, nought}
)

// some answers finite numbers other than 0, of all sizes and both signs: by fractions at both ends and between, and of few and many digits.
func some() []float64 {
	var l []float64
	exps := []uint64{0, 1, 2, 3, 52, 53, 54, 500, 970, 1021, 1022, 1023, 1024, 1025, 1074, 1500, 1970, 2044, 2045, 2046}
	fracs := []uint64{0, 1, 2, 3, 4, 5, 6, 7, 1 << 20, 1<<20 + 1, 3 << 30, 0x5555555555555, 0xaaaaaaaaaaaaa, 0x123456789abcd, 1 << 51, 1<<51 - 1, 1<<51 + 1, 1<<52 - 3, 1<<52 - 2, 1<<52 - 1}
	for _, e := range exps {
		for _, f := range fracs {
			if b := e<<52 | f; b != 0 {
				l = append(l, math.Float64frombits(b), -math.Float64frombits(b))
			}
		}
	}
	for b := uint64(1); b < 1<<52; b <<= 1 { // all powers of 2 below 2^-1022, and what is beside them
		l = append(l, math.Float64frombits(b), math.Float64frombits(b+1), -math.Float64frombits(b<<1-1))
	}
	return l
}

func all() []float64 {
	return slices.Concat(some(), noughts, infinities, nans)
}

// nearest is Scale over the exact numbers of math/big, of finite x other than 0.
func nearest(x float64, k int) float64 {
	y, _ := new(big.Float).SetMantExp(big.NewFloat(x), k).Float64()
	return y
}

func bitsAre(t *testing.T, what string, got, want float64) {
	t.Helper()
	if math.Float64bits(got) != math.Float64bits(want) {
		t.Errorf("%s: %x, not %x", what, math.Float64bits(got), math.Float64bits(want))
	}
}

// P1.1

func TestSame(t *testing.T) {
	l := all()
	for _, a := range l {
		for _, b := range l {
			want := math.Float64bits(a) == math.Float64bits(b) || math.IsNaN(a) && math.IsNaN(b)
			if Same(a, b) != want {
				t.Fatalf("%x %x: %v", math.Float64bits(a), math.Float64bits(b), !want)
			}
		}
	}
	if Same(0, nought) || Same(nought, 0) || !Same(nought, nought) || !Same(0, 0) {
		t.Error("noughts")
	}
	if Same(nan, inf) || Same(inf, nan) || Same(1, nan) || Same(inf, -inf) {
		t.Error("NaN and infinities")
	}
}

func TestFinite(t *testing.T) {
	if !Finite() || !Finite(nil...) || !Finite([]float64{}...) {
		t.Error("none")
	}
	for _, x := range some() {
		if !Finite(x) || !Finite(0, x, nought) {
			t.Fatal(x)
		}
	}
	if !Finite(some()...) || !Finite(0, nought, huge, -huge, tiny, -tiny) {
		t.Error("all finite")
	}
	if !Finite(huge, huge) || !Finite(huge, -huge) {
		t.Error("a sum that isn't finite")
	}
	for _, x := range slices.Concat(infinities, nans) {
		for _, l := range [][]float64{{x}, {x, 1, 2}, {1, x, 2}, {1, 2, x}, {x, -x}} {
			if Finite(l...) {
				t.Errorf("%v", l)
			}
		}
	}
}

func TestFiniteLeavesTheList(t *testing.T) {
	l := []float64{3, nought, huge, inf, nans[2]}
	had := slices.Clone(l)
	Finite(l...)
	for i := range l {
		bitsAre(t, "changed", l[i], had[i])
	}
}

func TestExp(t *testing.T) {
	for _, x := range slices.Concat(noughts, infinities, nans) {
		if k := Exp(x); k != 0 {
			t.Errorf("%v: %d", x, k)
		}
	}
	for _, x := range some() {
		k := Exp(x)
		size := new(big.Float).Abs(big.NewFloat(x))
		if one := big.NewFloat(1); new(big.Float).SetMantExp(one, k).Cmp(size) > 0 || new(big.Float).SetMantExp(one, k+1).Cmp(size) <= 0 {
			t.Errorf("%v: %d", x, k)
		}
	}
	for k := -1074; k <= 1023; k++ {
		p := math.Ldexp(1, k)
		if Exp(p) != k || Exp(-p) != k {
			t.Errorf("2^%d: %d", k, Exp(p))
		}
		if before := math.Nextafter(p, 0); before != 0 && Exp(before) != k-1 {
			t.Errorf("below 2^%d: %d", k, Exp(before))
		}
	}
	for x, k := range map[float64]int{0.75: -1, 1: 0, 1.5: 0, 3: 1, tiny: -1074, 2 * tiny: -1073, 3 * tiny: -1073, subnorm: -1023, norm: -1022, huge: 1023, -huge: 1023} {
		if Exp(x) != k {
			t.Errorf("%v: %d", x, Exp(x))
		}
	}
}

func TestTwo(t *testing.T) {
	for k := -1074; k <= 1023; k++ {
		bitsAre(t, "Two", Two(k), nearest(1, k))
	}
	for _, k := range []int{-1075, -1076, -1077, -1078, -1126, -1127, -1138, -1139, -2000, -2098, -1 << 31, -1 << 32, math.MinInt + 1, math.MinInt} {
		bitsAre(t, "far below", Two(k), 0)
	}
	for _, k := range []int{1024, 1025, 2046, 2047, 2048, 3072, 1 << 31, 1 << 32, math.MaxInt - 1, math.MaxInt} {
		bitsAre(t, "far above", Two(k), inf)
	}
	bitsAre(t, "Two(0)", Two(0), 1)
	bitsAre(t, "Two(10)", Two(10), 1024)
	bitsAre(t, "Two(-1)", Two(-1), 0.5)
	bitsAre(t, "Two(-1022)", Two(-1022), norm)
	bitsAre(t, "Two(-1074)", Two(-1074), tiny)
}

// P1.2

func TestScale(t *testing.T) {
	for _, x := range some() {
		for k := -2110; k <= 2110; k++ {
			if got, want := Scale(x, k), nearest(x, k); math.Float64bits(got) != math.Float64bits(want) {
				t.Fatalf("%v times 2^%d: %v, not %v", x, k, got, want)
			}
		}
	}
}

func TestScaleFarOut(t *testing.T) {
	for _, x := range some() {
		for _, k := range []int{-2099, -2100, -2150, -4096, -1 << 31, -1 << 32, -1 << 62, math.MinInt + 52, math.MinInt + 1, math.MinInt} {
			bitsAre(t, "far below", Scale(x, k), math.Copysign(0, x))
		}
		for _, k := range []int{2098, 2099, 2150, 4096, 1 << 31, 1 << 32, 1 << 62, math.MaxInt - 52, math.MaxInt - 1, math.MaxInt} {
			bitsAre(t, "far above", Scale(x, k), math.Copysign(inf, x))
		}
	}
}

func TestScaleOfNoughtsInfinitiesAndNans(t *testing.T) {
	for _, k := range []int{math.MinInt, -5000, -1075, -1, 0, 1, 1024, 5000, math.MaxInt} {
		for _, x := range slices.Concat(noughts, infinities) {
			bitsAre(t, "Scale", Scale(x, k), x)
		}
		for _, x := range nans {
			if !math.IsNaN(Scale(x, k)) {
				t.Errorf("NaN times 2^%d", k)
			}
		}
	}
}

func TestScaleHalfway(t *testing.T) {
	for _, c := range []struct {
		x    float64
		k    int
		want float64
	}{
		{1, -1074, tiny}, {1, -1075, 0}, {math.Nextafter(1, 2), -1075, tiny}, {math.Nextafter(1, 0), -1075, 0},
		{huge, -2098, tiny}, {huge, -2099, 0}, {math.Ldexp(1, 1023), -2098, 0}, {math.Nextafter(math.Ldexp(1, 1023), inf), -2098, tiny},
		{tiny, -1, 0}, {3 * tiny, -1, 2 * tiny}, {5 * tiny, -1, 2 * tiny}, {7 * tiny, -1, 4 * tiny}, {3 * tiny, -2, tiny}, {2 * tiny, -2, 0},
		{1.5, -1074, 2 * tiny}, {2.5, -1074, 2 * tiny}, {3.5, -1074, 4 * tiny}, {0.5, -1074, 0},
		{math.Nextafter(2.5, 3), -1074, 3 * tiny}, {math.Nextafter(1.5, 1), -1074, tiny},
		// Rounded to 53 digits first, these would be halfway once more.
		{math.Float64frombits(1<<52 | 1), -1, math.Float64frombits(1 << 51)}, {math.Float64frombits(1<<52 | 3), -1, math.Float64frombits(1<<51 | 2)},
		// What is rounded up may be normal again.
		{math.Nextafter(2*norm, 0), -1, norm}, {math.Nextafter(1, 0), -1022, norm}, {math.Nextafter(1, 0), -1023, math.Float64frombits(1 << 51)},
		{3, -1075, 2 * tiny},
	} {
		bitsAre(t, "halfway", Scale(c.x, c.k), c.want)
		bitsAre(t, "halfway, below 0", Scale(-c.x, c.k), -c.want)
	}
}

func TestScaleUpToInfinity(t *testing.T) {
	for _, c := range []struct {
		x    float64
		k    int
		want float64
	}{
		{1, 1023, math.Ldexp(1, 1023)}, {1, 1024, inf}, {huge, 0, huge}, {huge, 1, inf}, {huge / 2, 1, huge},
		{math.Nextafter(2, 0), 1023, huge}, {math.Nextafter(1, 0), 1024, huge}, {math.Nextafter(1, 2), 1024, inf},
		{tiny, 2097, math.Ldexp(1, 1023)}, {tiny, 2098, inf}, {subnorm, 2046, math.Ldexp(1-0x1p-52, 1024)}, {subnorm, 2047, inf},
		{norm, -1, math.Float64frombits(1 << 51)}, {subnorm, 1, math.Float64frombits(1<<53 - 2)},
	} {
		bitsAre(t, "great", Scale(c.x, c.k), c.want)
		bitsAre(t, "great, below 0", Scale(-c.x, c.k), -c.want)
	}
}

// P1.3

func TestUpAndDown(t *testing.T) {
	for _, x := range slices.Concat(some(), infinities) {
		up, down := math.Nextafter(x, inf), math.Nextafter(x, -inf)
		bitsAre(t, "Up", Up(x), up)
		bitsAre(t, "Down", Down(x), down)
		bitsAre(t, "minus Up of minus", Down(x), -Up(-x))
	}
	for _, x := range nans {
		if !math.IsNaN(Up(x)) || !math.IsNaN(Down(x)) {
			t.Error("NaN")
		}
	}
}

func TestUpAndDownAtTheEdges(t *testing.T) {
	for _, c := range []struct{ x, up float64 }{
		{0, tiny}, {nought, tiny}, {tiny, 2 * tiny}, {-tiny, nought}, {-2 * tiny, -tiny},
		{subnorm, norm}, {-norm, -subnorm}, {norm, math.Float64frombits(1<<52 + 1)},
		{1, 1 + 0x1p-52}, {-1, -1 + 0x1p-53}, {1 - 0x1p-53, 1}, {-1 - 0x1p-52, -1},
		{huge, inf}, {inf, inf}, {-inf, -huge}, {math.Nextafter(huge, 0), huge},
	} {
		bitsAre(t, "Up", Up(c.x), c.up)
		bitsAre(t, "Down", Down(-c.x), -c.up)
	}
	bitsAre(t, "Down of +0", Down(0), -tiny)
	bitsAre(t, "Down of 2^-1074", Down(tiny), 0)
	bitsAre(t, "Down of +Inf", Down(inf), huge)
}

// P1.4

func TestHex(t *testing.T) {
	for _, c := range []struct {
		x float64
		s string
	}{
		{0, "0000000000000000"}, {nought, "8000000000000000"}, {tiny, "0000000000000001"}, {-tiny, "8000000000000001"},
		{subnorm, "000fffffffffffff"}, {norm, "0010000000000000"}, {1, "3ff0000000000000"}, {1.5, "3ff8000000000000"}, {-2, "c000000000000000"},
		{huge, "7fefffffffffffff"}, {-huge, "ffefffffffffffff"}, {inf, "7ff0000000000000"}, {-inf, "fff0000000000000"},
		{math.Float64frombits(0x0123456789abcdef), "0123456789abcdef"}, {math.Float64frombits(0xfedcba9876543210), "fedcba9876543210"},
		{math.Float64frombits(0x7ff8000000000abc), "7ff8000000000abc"},
	} {
		if got := Hex(c.x); got != c.s {
			t.Errorf("%v: %s, not %s", c.x, got, c.s)
		}
		got, e := Parse(c.s)
		if e != api.OK {
			t.Errorf("%s: %v", c.s, e)
		}
		bitsAre(t, c.s, got, c.x)
	}
}

func TestParseOfHex(t *testing.T) {
	for _, x := range all() {
		got, e := Parse(Hex(x))
		if e != api.OK || !Same(got, x) {
			t.Errorf("%v: %s, %v %v", x, Hex(x), got, e)
		}
	}
}

func formIsWrong(t *testing.T, s string) {
	t.Helper()
	x, e := Parse(s)
	if e != api.ErrForm {
		t.Errorf("%q: error %d", s, int(e))
	}
	bitsAre(t, "beside an error", x, 0)
}

func TestParseOfNoNumbersText(t *testing.T) {
	for n := range 40 {
		if n != 16 {
			formIsWrong(t, strings.Repeat("0", n))
			formIsWrong(t, strings.Repeat("f", n))
		}
	}
	const right = "c0123456789abcde"
	for at := range right {
		for c := range 256 {
			s := right[:at] + string([]byte{byte(c)}) + right[at+1:]
			if strings.IndexByte("0123456789abcdef", byte(c)) < 0 {
				formIsWrong(t, s)
			} else if x, e := Parse(s); e != api.OK || Hex(x) != s {
				t.Errorf("%q: %v %v", s, x, e)
			}
		}
	}
	for _, s := range []string{
		"0x3ff80000000000", "0x3ff8000000000000", "+ff8000000000000", "-ff8000000000000", "3ff8_00000000000", "3FF8000000000000",
		" 3ff8000000000000", "3ff8000000000000 ", "3ff8000000000000\n", "3ff800000000000\x00", "3ff8000000000000p", "1.50000000000000",
		"éééééééé", "٣٣٣٣٣٣٣٣", "\xff\xff\xff\xff\xff\xff\xff\xff\xff\xff\xff\xff\xff\xff\xff\xff", "NaN", "Inf", "1", strings.Repeat("0", 1<<16),
	} {
		formIsWrong(t, s)
	}
}
