package dyad

import (
	"math"
	"math/big"
	"slices"
	"strconv"
	"strings"
	"testing"

	"straightedge/api"
)

const (
	tiny = math.SmallestNonzeroFloat64 // 2^-1074
	huge = math.MaxFloat64
	far  = 1 << 20
)

var (
	inf     = math.Inf(1)
	nought  = math.Copysign(0, -1)
	norm    = math.Float64frombits(1 << 52)   // 2^-1022
	subnorm = math.Float64frombits(1<<52 - 1) // the greatest below it
)

// exact is m times 2^e over the numbers of math/big.
type exact struct {
	m *big.Int
	e int
}

func (x exact) at(e int) *big.Int { return new(big.Int).Lsh(x.m, uint(x.e-e)) }

func (x exact) plus(y exact) exact {
	e := min(x.e, y.e)
	return exact{new(big.Int).Add(x.at(e), y.at(e)), e}
}

func (x exact) times(y exact) exact { return exact{new(big.Int).Mul(x.m, y.m), x.e + y.e} }

func (x exact) cmp(y exact) int {
	e := min(x.e, y.e)
	return x.at(e).Cmp(y.at(e))
}

// text is x's text by the document's words.
func (x exact) text() string {
	if x.m.Sign() == 0 {
		return "0"
	}
	n := x.m.TrailingZeroBits()
	m := new(big.Int).Rsh(new(big.Int).Abs(x.m), n)
	s := m.Text(16) + "p" + strconv.Itoa(x.e+int(n))
	if x.m.Sign() < 0 {
		return "-" + s
	}
	return s
}

func (x exact) near() float64 {
	if x.m.Sign() == 0 {
		return 0
	}
	f := new(big.Float).SetInt(x.m)
	y, _ := f.SetMantExp(f, x.e).Float64()
	return y
}

func exactOf(x float64) exact {
	f, e := math.Frexp(x)
	return exact{big.NewInt(int64(math.Ldexp(f, 53))), e - 53}
}

// dyad makes x by sums and shifts of ints.
func (x exact) dyad() D {
	var l []D
	for i, w := range new(big.Int).Abs(x.m).Bytes() {
		l = append(l, Int(int(w)).Shift(8*(len(x.m.Bytes())-1-i)))
	}
	d := Add(l...)
	if x.m.Sign() < 0 {
		d = d.Neg()
	}
	return d.Shift(x.e)
}

// sizes answers whole numbers other than 0: of few and many digits, and about powers of 2.
func sizes() []*big.Int {
	var l []*big.Int
	one := big.NewInt(1)
	for _, k := range []uint{1, 2, 3, 31, 32, 52, 53, 54, 55, 62, 63, 64, 65, 127, 128, 129, 192, 300} {
		p := new(big.Int).Lsh(one, k)
		l = append(l, p, new(big.Int).Add(p, one), new(big.Int).Sub(p, one))
	}
	for _, s := range []string{"5555555555555555", "aaaaaaaaaaaaaaab", "123456789abcdef0fedcba9876543210", "10000000000000001000000000000001", "ffffffffffffffff0000000000000000ffffffffffffffff", "1fffffffffffff8", "1fffffffffffff7", "20000000000000800000000001"} {
		n, _ := new(big.Int).SetString(s, 16)
		l = append(l, n)
	}
	return l
}

// some answers numbers of all kinds, 0 among them, as exact ones.
func some() []exact {
	l := []exact{{new(big.Int), 0}, exactOf(1), exactOf(-1)}
	exps := []int{0, 1, -1, 63, 64, -64, -65, 200, -1022, -1074, -1127, 970, 3000, -3000}
	for i, m := range sizes() {
		for j := range 3 {
			x := exact{m, exps[(3*i+j)%len(exps)]}
			if (i+j)%2 == 1 {
				x.m = new(big.Int).Neg(m)
			}
			l = append(l, x)
		}
	}
	return l
}

func floats() []float64 {
	var l []float64
	for _, e := range []uint64{0, 1, 2, 52, 53, 500, 970, 1021, 1022, 1023, 1024, 1025, 1074, 1075, 1076, 1500, 2045, 2046} {
		for _, f := range []uint64{0, 1, 2, 3, 1 << 20, 0x5555555555555, 0x123456789abcd, 1 << 51, 1<<51 - 1, 1<<52 - 2, 1<<52 - 1} {
			if x := math.Float64frombits(e<<52 | f); x != 0 {
				l = append(l, x, -x)
			}
		}
	}
	for b := uint64(1); b < 1<<52; b <<= 1 {
		l = append(l, math.Float64frombits(b), -math.Float64frombits(b+1), math.Float64frombits(b<<1-1))
	}
	return l
}

func of(t *testing.T, x float64) D {
	t.Helper()
	d, e := Of(x)
	if e != api.OK {
		t.Fatalf("Of(%v): %v", x, e)
	}
	return d
}

func parsed(t *testing.T, s string) D {
	t.Helper()
	d, e := Parse(s)
	if e != api.OK {
		t.Fatalf("Parse(%.50q): %v", s, e)
	}
	return d
}

func textIs(t *testing.T, what string, d D, want string) {
	t.Helper()
	if got := d.Text(); got != want {
		t.Errorf("%s: %.200s, not %.200s", what, got, want)
	}
}

func bitsAre(t *testing.T, what string, got, want float64) {
	t.Helper()
	if math.Float64bits(got) != math.Float64bits(want) {
		t.Errorf("%s: %v (%x), not %v (%x)", what, got, math.Float64bits(got), want, math.Float64bits(want))
	}
}

// P2.1

func TestOf(t *testing.T) {
	for _, x := range floats() {
		textIs(t, "Of", of(t, x), exactOf(x).text())
	}
	for x, s := range map[float64]string{0.75: "3p-2", 1: "1p0", -1: "-1p0", 1000: "7dp3", tiny: "1p-1074", -3 * tiny: "-3p-1074", subnorm: "fffffffffffffp-1074", norm: "1p-1022", huge: "1fffffffffffffp971", -huge: "-1fffffffffffffp971", 0x1p1023: "1p1023"} {
		textIs(t, "Of", of(t, x), s)
	}
	for _, x := range []float64{0, nought} {
		if d := of(t, x); d.Sign() != 0 || d.Cmp(D{}) != 0 {
			t.Error("a nought that isn't 0")
		}
		textIs(t, "Of a nought", of(t, x), "0")
	}
}

func TestOfWhatIsNotFinite(t *testing.T) {
	for _, x := range []float64{inf, -inf, math.NaN(), -math.NaN(), math.Float64frombits(0x7ff0000000000001), math.Float64frombits(0xffffffffffffffff)} {
		if d, e := Of(x); e != api.ErrNan || d.Sign() != 0 || d.Text() != "0" {
			t.Errorf("%v: %v %s", x, e, d.Text())
		}
	}
}

func TestInt(t *testing.T) {
	for _, n := range []int{0, 1, -1, 2, 3, -7, 10, 255, 256, 1 << 31, 1<<32 - 1, 1 << 53, 1<<53 + 1, 1<<62 + 1, math.MaxInt - 1, math.MaxInt, math.MinInt, math.MinInt + 1} {
		textIs(t, "Int", Int(n), exact{big.NewInt(int64(n)), 0}.text())
	}
	textIs(t, "the least", Int(math.MinInt), "-1p63")
	textIs(t, "the greatest", Int(math.MaxInt), "7fffffffffffffffp0")
	textIs(t, "0", Int(0), "0")
}

func TestZeroValue(t *testing.T) {
	var d D
	if d.Sign() != 0 || d.Cmp(Int(0)) != 0 || Add(d, Int(3)).Cmp(Int(3)) != 0 || Mul(d, Int(3)).Sign() != 0 || d.Sub(Int(3)).Cmp(Int(-3)) != 0 || Int(3).Sub(d).Cmp(Int(3)) != 0 || d.Neg().Sign() != 0 || d.Abs().Sign() != 0 {
		t.Error("a zero D isn't 0")
	}
	bitsAre(t, "Near", d.Near(), 0)
	for what, x := range map[string]D{"itself": d, "Neg": d.Neg(), "Abs": d.Abs(), "Shift": d.Shift(5), "far Shift": d.Shift(-far), "Add": Add(d, d), "Mul": Mul(d, d), "Sub": d.Sub(d), "Neg of a difference": Int(3).Sub(Int(3)).Neg()} {
		textIs(t, what, x, "0")
		bitsAre(t, what, x.Near(), 0)
	}
}

func TestOfNone(t *testing.T) {
	textIs(t, "a sum", Add(), "0")
	textIs(t, "a sum of nil", Add(nil...), "0")
	textIs(t, "a sum of an empty list", Add([]D{}...), "0")
	textIs(t, "a product", Mul(), "1p0")
	textIs(t, "a product of nil", Mul(nil...), "1p0")
	textIs(t, "a product of an empty list", Mul([]D{}...), "1p0")
}

func TestOfTwo(t *testing.T) {
	l := some()
	ds := make([]D, len(l))
	for i, x := range l {
		ds[i] = x.dyad()
		textIs(t, "itself", ds[i], x.text())
		textIs(t, "a sum of one", Add(ds[i]), x.text())
		textIs(t, "a product of one", Mul(ds[i]), x.text())
		textIs(t, "Neg", ds[i].Neg(), exact{new(big.Int).Neg(x.m), x.e}.text())
		textIs(t, "Abs", ds[i].Abs(), exact{new(big.Int).Abs(x.m), x.e}.text())
	}
	for i, x := range l {
		for j, y := range l {
			textIs(t, "Add", Add(ds[i], ds[j]), x.plus(y).text())
			textIs(t, "Mul", Mul(ds[i], ds[j]), x.times(y).text())
			textIs(t, "Sub", ds[i].Sub(ds[j]), x.plus(exact{new(big.Int).Neg(y.m), y.e}).text())
		}
	}
	for i, x := range l { // what was reckoned with is as it was
		textIs(t, "changed", ds[i], x.text())
	}
}

func TestOfMany(t *testing.T) {
	l := some()
	for step := 1; step < 12; step++ {
		var ds []D
		sum, product := exactOf(0), exactOf(1)
		for i := step % 3; i < len(l); i += step {
			ds = append(ds, l[i].dyad())
			sum = sum.plus(l[i])
			if l[i].m.Sign() != 0 {
				product = product.times(l[i])
			}
		}
		textIs(t, "Add", Add(ds...), sum.text())
		slices.Reverse(ds)
		textIs(t, "Add, from the other end", Add(ds...), sum.text())
		for _, d := range slices.Clone(ds) {
			ds = append(ds, d.Neg())
		}
		textIs(t, "Add, with all minus themselves", Add(ds...), "0")
		ds = slices.DeleteFunc(ds[:len(ds)/2], func(d D) bool { return d.Sign() == 0 })
		textIs(t, "Mul", Mul(ds...), product.text())
		textIs(t, "Mul with 0 behind", Mul(append(slices.Clone(ds), D{})...), "0")
		textIs(t, "Mul with 0 ahead", Mul(append([]D{{}}, ds...)...), "0")
	}
}

func TestCarries(t *testing.T) {
	one := big.NewInt(1)
	for _, k := range []int{1, 63, 64, 65, 127, 128, 129, 1000, 4096, 20000} {
		p := new(big.Int).Lsh(one, uint(k))
		ones := exact{new(big.Int).Sub(p, one), 0} // k digits, all 1
		d := Int(1).Shift(k).Sub(Int(1))
		textIs(t, "borrowed", d, ones.text())
		textIs(t, "borrowed below 0", Int(1).Sub(Int(1).Shift(k)), "-"+ones.text())
		textIs(t, "carried", Add(d, Int(1)), "1p"+strconv.Itoa(k))
		textIs(t, "carried below 0", Add(Int(-1), d.Neg()), "-1p"+strconv.Itoa(k))
		textIs(t, "squared", Mul(d, d), ones.times(ones).text())
		textIs(t, "three times", Mul(d, d, d.Neg()), "-"+ones.times(ones).times(ones).text())
		textIs(t, "twice", Add(d, d), ones.plus(ones).text())
		textIs(t, "all digits, one by one", Add(slices.Repeat([]D{d}, 1000)...), ones.times(exactOf(1000)).text())
	}
	greatest := Int(math.MaxInt)
	textIs(t, "many great ones", Add(slices.Repeat([]D{greatest, Int(math.MinInt)}, 5000)...), "-271p3")
	textIs(t, "many great ones", Add(slices.Repeat([]D{greatest}, 1<<16)...), "7fffffffffffffffp16")
	product := exactOf(1)
	var l []D
	for n := 1; n <= 300; n++ {
		product = product.times(exactOf(float64(n)))
		l = append(l, Int(n))
	}
	textIs(t, "1 to 300", Mul(l...), product.text())
}

func TestCancels(t *testing.T) {
	a, b := of(t, 1e300), of(t, 1e-300)
	textIs(t, "a + b - a", Add(a, b, a.Neg()), b.Text())
	textIs(t, "a + b - b", Add(a, b, b.Neg()), a.Text())
	textIs(t, "a - a", a.Sub(a), "0")
	top, bottom := Int(1).Shift(far), Int(3).Shift(-far)
	textIs(t, "far apart", Add(top, bottom, top.Neg()), "3p-1048576")
	textIs(t, "far apart", Add(top, bottom).Sub(bottom), "1p1048576")
	if s := top.Sub(bottom).Text(); s != strings.Repeat("f", far/2-1)+"dp-1048576" {
		t.Error("a difference of far digits")
	}
}

func TestSumsThatReachOtherNumbers(t *testing.T) {
	for n := 1; n <= 300; n++ {
		for k := range 9 {
			l := append(slices.Repeat([]D{Int(1)}, n), Int(1).Shift(k))
			textIs(t, "ones and a power of 2", Add(l...), exactOf(float64(n+1<<k)).text())
		}
	}
	many := slices.Repeat([]D{Int(-1)}, 1<<17)
	textIs(t, "ones below 0, and a power of 2", Add(append(many, Int(1).Shift(16))...), "-1p16")
	for _, k := range []int{1, 60, 64, 65, 100, 130, 200, 999} {
		wide := Int(1).Shift(1000).Sub(Int(1))
		l := []D{wide, Int(1), Int(1).Shift(k)}
		textIs(t, "what is within a wide one", Add(l...), exactOf(1).times(exact{big.NewInt(1), 1000}).plus(exact{big.NewInt(1), k}).text())
		slices.Reverse(l)
		textIs(t, "what is within a wide one", Add(l...), Add(l[2], l[1], l[0]).Text())
	}
	for _, e := range []int{-5000, -70, 0, 70, 5000} {
		for _, at := range []int{-9000, -500, 500, 9000} {
			one := Int(1).Shift(e)
			textIs(t, "beside what cancels out", Add(one, Int(3).Shift(e+at), one.Neg()), "3p"+strconv.Itoa(e+at))
			textIs(t, "beside what cancels out twice", Add(one, Int(3).Shift(e+at), one.Shift(3*at), one.Neg(), one.Shift(3*at).Neg()), "3p"+strconv.Itoa(e+at))
		}
	}
}

func TestShift(t *testing.T) {
	for _, x := range some() {
		for _, k := range []int{0, 1, -1, 63, 64, -64, 1000, -1000, far - 1, far, 1 - far, -far} {
			textIs(t, "Shift", x.dyad().Shift(k), exact{x.m, x.e + k}.text())
		}
		for _, k := range []int{far + 1, far + 2, 1 << 31, 1 << 32, 1 << 40, math.MaxInt - 1, math.MaxInt} {
			textIs(t, "beyond 2^20", x.dyad().Shift(k), exact{x.m, x.e + far}.text())
			textIs(t, "below -2^20", x.dyad().Shift(-k), exact{x.m, x.e - far}.text())
		}
		textIs(t, "the least int", x.dyad().Shift(math.MinInt), exact{x.m, x.e - far}.text())
		textIs(t, "to and fro", x.dyad().Shift(77).Shift(-77), x.text())
	}
	textIs(t, "twice", Int(10).Shift(far).Shift(far), "5p2097153")
}

// squared answers d to the power of 2^n.
func squared(d D, n int) D {
	for range n {
		d = Mul(d, d)
	}
	return d
}

func TestExponentsBeyondAnInt(t *testing.T) {
	for _, n := range []int{0, 1, 10, 42, 43, 44, 45, 64, 107, 108, 300} {
		up, down := squared(Int(1).Shift(far), n), squared(Int(1).Shift(-far), n)
		e := new(big.Int).Lsh(big.NewInt(1), uint(20+n)).String()
		textIs(t, "up", up, "1p"+e)
		textIs(t, "down", down, "1p-"+e)
		textIs(t, "up, below 0", up.Neg(), "-1p"+e)
		textIs(t, "up and down", Mul(up, down, Int(3)), "3p0")
		textIs(t, "up less up", up.Sub(up), "0")
		textIs(t, "three less two", Mul(up, Int(3)).Sub(up.Shift(1)), "1p"+e)
		textIs(t, "with others between", Add(up, Int(5), down, up.Neg(), down.Neg()), "5p0")
		textIs(t, "beside one another", Add(up.Shift(3), up), "9p"+e)
		if up.Cmp(up.Shift(1)) != -1 || up.Cmp(down) != 1 || down.Cmp(up) != -1 || up.Cmp(up) != 0 || up.Neg().Cmp(down.Neg()) != -1 || down.Cmp(D{}) != 1 || up.Neg().Cmp(D{}) != -1 || up.Cmp(Add(up.Shift(-1), up.Shift(-2))) != 1 {
			t.Error("Cmp", n)
		}
		bitsAre(t, "up", up.Near(), inf)
		bitsAre(t, "up, below 0", up.Neg().Near(), -inf)
		bitsAre(t, "down", down.Near(), 0)
		bitsAre(t, "down, below 0", down.Neg().Near(), nought)
	}
	e := new(big.Int).Exp(big.NewInt(10), big.NewInt(19), nil) // where the decimal digits have noughts between
	for range 3 {
		d := D{Int(1).m, wholeOf(0)}
		for i := range e.BitLen() {
			if e.Bit(i) == 1 {
				d = Mul(d, squared(Int(2), i))
			}
		}
		textIs(t, "a power of 10", d, "1p"+e.String())
		e.Mul(e, e)
	}
}

func TestSumBeyondAnyAnswerEnds(t *testing.T) {
	up := squared(Int(1).Shift(far), 30)
	for _, d := range []D{Add(up, Int(1)), up.Sub(Int(1)), Int(1).Sub(squared(up, 50)), Add(squared(up, 300), Int(1))} {
		d.Near() // nothing is promised of it
	}
}

func TestListsAreLeft(t *testing.T) {
	l := []D{Int(8), Int(0), Int(-3), Int(1).Shift(300), Int(5), Int(0), Int(7)}
	had := make([]string, len(l))
	for i, d := range l {
		had[i] = d.Text()
	}
	sum := Add(l[:3]...)
	for range 2 {
		Add(l[1:]...)
		Mul(l...)
		Mul(l[2:5]...)
	}
	for i, d := range l {
		textIs(t, "changed", d, had[i])
	}
	l[0], l[2] = Int(100), Int(100)
	textIs(t, "a sum that is kept", sum, "5p0")
}

func TestAnswersAreTheirOwn(t *testing.T) {
	d := Int(1).Shift(200).Sub(Int(1))
	want := d.Text()
	l := []D{d.Neg(), d.Abs(), d.Shift(3), Add(d), Mul(d), Add(d, D{})}
	for _, x := range l {
		Add(x, Int(1))
		Mul(x, x)
		x.Sub(Int(7))
		x.Near()
		x.Shift(-3).Neg().Abs()
	}
	textIs(t, "d", d, want)
	for i, s := range []string{"-" + want, want, strings.Replace(want, "p0", "p3", 1), want, want, want} {
		textIs(t, "an answer", l[i], s)
	}
}

// P2.2

func TestCmpAndSign(t *testing.T) {
	l := some()
	for _, x := range some() { // and neighbours of each
		l = append(l, x.plus(exact{big.NewInt(1), x.e - 70}), x.plus(exact{big.NewInt(-1), x.e}))
	}
	ds := make([]D, len(l))
	for i, x := range l {
		ds[i] = x.dyad()
		if ds[i].Sign() != x.m.Sign() {
			t.Error("Sign", x.text(), ds[i].Sign())
		}
	}
	for i, x := range l {
		for j, y := range l {
			if got := ds[i].Cmp(ds[j]); got != x.cmp(y) {
				t.Fatalf("%s and %s: %d", x.text(), y.text(), got)
			}
		}
	}
}

func TestCmpOfAllSigns(t *testing.T) {
	l := []D{Int(-2), Int(-1), Int(-1).Shift(-5), {}, Int(1).Shift(-5), Int(1), Int(2)}
	for i, x := range l {
		for j, y := range l {
			want := 0
			if i < j {
				want = -1
			} else if i > j {
				want = 1
			}
			if x.Cmp(y) != want {
				t.Error(i, j, x.Cmp(y))
			}
		}
	}
}

func TestNear(t *testing.T) {
	for _, x := range floats() {
		bitsAre(t, "of a float", of(t, x).Near(), x)
	}
	for _, x := range some() {
		bitsAre(t, x.text(), x.dyad().Near(), x.near())
	}
	for _, m := range sizes() {
		for _, e := range []int{-1400, -1200, -1140, -1130, -1129, -1128, -1127, -1126, -1125, -1105, -1076, -1075, -1074, -1060, -1022, 600, 900, 959, 960, 961, 969, 970, 971, 972, 1000, 1021, 1022, 1023, 1024} {
			x := exact{m, e}
			bitsAre(t, x.text(), x.dyad().Near(), x.near())
			bitsAre(t, "-"+x.text(), x.dyad().Neg().Near(), -x.near())
		}
	}
	bitsAre(t, "0", Int(0).Near(), 0)
	bitsAre(t, "minus 0", Int(0).Neg().Near(), 0)
}

func TestNearAtTheEdges(t *testing.T) {
	bit, ones := strings.Repeat("0", 31)+"1", strings.Repeat("f", 32) // just above nothing, and just below a whole
	for s, want := range map[string]float64{
		// halfway, and a little to each side of it
		"20000000000001p0": 0x1p53, "20000000000003p0": 0x20000000000004, "40000000000002fp0": 0x400000000000030, "400000000000011p0": 0x400000000000020, "40000000000000fp0": 0x400000000000000,
		"20000000000001p-53": 1, "20000000000003p-53": 1 + 0x1p-51, "20000000000001" + bit + "p-181": 1 + 0x1p-52, "20000000000000" + ones + "p-181": 1, "20000000000003" + bit + "p-181": 1 + 0x1p-51, "20000000000002" + ones + "p-181": 1 + 0x1p-52,
		"3fffffffffffffp0": 0x1p54, "3ffffffffffffdp0": 0x3ffffffffffffc, "1fffffffffffffp0": 0x1fffffffffffff,
		// below the least normal float
		"1p-1074": tiny, "1p-1075": 0, "3p-1076": tiny, "1p-1076": 0, "10000000000000001p-1139": tiny, "ffffffffffffffffp-1139": 0, "3p-1075": 2 * tiny, "5p-1075": 2 * tiny, "7p-1075": 4 * tiny, "9p-1077": tiny, "bp-1077": tiny, "dp-1077": 2 * tiny,
		"1fffffffffffffp-1075": norm, "fffffffffffffp-1074": subnorm, "1ffffffffffffdp-1075": 0x1.ffffffffffffcp-1023, "1p-1077": 0, "fffffffffffffffp-1137": 0, "1p-1048576": 0,
		// rounded to 53 digits first, these would be halfway once more
		"4000000000000bp-1077": 0x1.0000000000002p-1023, "40000000000005p-1077": 0x1.0000000000002p-1023, "1000000000000007p-1134": 0x1p-1074, "1800000000000001p-1135": tiny,
		// at the greatest float
		"1fffffffffffffp971": huge, "3fffffffffffffp970": inf, "7ffffffffffffdp969": huge, "3ffffffffffffe" + bit + "p842": huge, "3ffffffffffffe" + ones + "p842": huge, "3fffffffffffff" + bit + "p842": inf, "3fffffffffffff00000001p938": inf, "1p1023": 0x1p1023, "1p1024": inf, "1p1048576": inf, "ffffffffffffffffp960": inf,
	} {
		d := parsed(t, s)
		bitsAre(t, s, d.Near(), want)
		bitsAre(t, "-"+s, d.Neg().Near(), -want)
	}
}

func TestNearOfWhatIsWide(t *testing.T) {
	one := Int(1)
	for _, k := range []int{54, 64, 118, 200, 5000, far} {
		dust := one.Shift(-k)
		half := one.Shift(-53)
		bitsAre(t, "dust", Add(one, dust).Near(), 1)
		bitsAre(t, "less dust", one.Sub(dust.Shift(-1)).Near(), 1)
		bitsAre(t, "half and dust", Add(one, half, dust).Near(), 1+0x1p-52)
		bitsAre(t, "half less dust", Add(one, half).Sub(dust).Near(), 1)
		bitsAre(t, "half of the least, and dust", Add(one.Shift(-1075), dust.Shift(-1075)).Near(), tiny)
		bitsAre(t, "half of the least, less dust", dust.Shift(-1075).Sub(one.Shift(-1075)).Near(), nought)
		bitsAre(t, "great, with dust", Add(of(t, huge), one.Shift(970).Sub(dust)).Near(), huge)
		bitsAre(t, "great, half away", Add(of(t, huge), one.Shift(970)).Near(), inf)
	}
}

// P2.3

func TestText(t *testing.T) {
	for _, x := range some() {
		s := x.text()
		textIs(t, "Text", x.dyad(), s)
		d := parsed(t, s)
		textIs(t, "Text of Parse", d, s)
		if d.Cmp(x.dyad()) != 0 || d.Sign() != x.m.Sign() {
			t.Error("Parse", s)
		}
	}
	for _, s := range []string{"0", "1p0", "-1p0", "3p-2", "7dp3", "-1p63", "abcdef0123456789p-9", "fp1048576", "fp-1048576", "-123456789abcdefp1000000", "1p10", "1p-1", "1p1048570", "1p999999", "1p99999"} {
		textIs(t, s, parsed(t, s), s)
	}
	bitsAre(t, "3p-2", parsed(t, "3p-2").Near(), 0.75)
	bitsAre(t, "-7dp3", parsed(t, "-7dp3").Near(), -1000)
	bitsAre(t, "0", parsed(t, "0").Near(), 0)
}

func TestParsedNumbersAreReckonedWith(t *testing.T) {
	a, b := parsed(t, "fffffffffffffffffp-4"), parsed(t, "1p-4")
	textIs(t, "sum", Add(a, b), "1p64")
	textIs(t, "product", Mul(a, parsed(t, "-3p1048576")), "-2ffffffffffffffffdp1048572")
	if a.Cmp(b) != 1 || a.Cmp(parsed(t, "fffffffffffffffffp-4")) != 0 {
		t.Error("Cmp")
	}
}

func formIsWrong(t *testing.T, s string) {
	t.Helper()
	if d, e := Parse(s); e != api.ErrForm || d.Sign() != 0 || d.Text() != "0" {
		t.Errorf("%.80q: error %d, %.80s", s, int(e), d.Text())
	}
}

func TestParseOfNoNumbersText(t *testing.T) {
	for _, s := range []string{
		"", "-", "-0", "00", "+0", "0p0", "-0p0", "0p", "p", "p0", "-p0", "p-1", "1", "-1", "1p", "-1p", "1p-", "1p--1", "--1p0", "+1p0",
		"2p0", "ap0", "10p0", "20000000000000000p0", "1fep-3", "01p0", "-01p0", "0x1p0", "1p+1", "1p-0", "1p00", "1p01", "1p-01", "1p0000000", "1p0000001", "1p00000000000000001",
		"Ap0", "1Fp0", "1P0", "gp0", "1gp0", "1 p0", " 1p0", "1p0 ", "1p 0", "1p0\n", "1p0\x00", "1_1p0", "1.1p0", "1p1.0", "1p1e1", "1pa", "1p0x1", "1p1_0", "1pp0", "1p0p", "1p0p0", "1p1-", "1-p0", "1p1p1", "-1p-1-",
		"٣p0", "1p٣", "1p²", "１p0", "éééé", "\xff", "1p\xff", "NaN", "Inf", "inf", "0.75",
	} {
		formIsWrong(t, s)
	}
}

func TestParseOfAnyByteAtAnyPlace(t *testing.T) {
	const right = "-9abp-104"
	for at := range right {
		for c := range 256 {
			for _, s := range []string{right[:at] + string([]byte{byte(c)}) + right[at+1:], right[:at] + string([]byte{byte(c)}) + right[at:]} {
				if isText(s) {
					textIs(t, s, parsed(t, s), s)
				} else {
					formIsWrong(t, s)
				}
			}
		}
	}
}

// isText tells whether s is a number's text, by math/big's numbers.
func isText(s string) bool {
	rest := strings.TrimPrefix(s, "-")
	hexes, decimals, _ := strings.Cut(rest, "p")
	m, ok := new(big.Int).SetString(hexes, 16)
	e, err := strconv.Atoi(decimals)
	if !ok || err != nil || m.Bit(0) == 0 || e < -far || e > far {
		return false
	}
	if len(rest) < len(s) {
		m.Neg(m)
	}
	return exact{m, e}.text() == s
}

func TestParseAtItsBounds(t *testing.T) {
	for _, e := range []int{far, far - 1, -far, 1 - far, 1000000, 999999} {
		s := "3p" + strconv.Itoa(e)
		textIs(t, s, parsed(t, s), s)
	}
	for _, e := range []string{"1048577", "-1048577", "1048580", "1050000", "2000000", "9999999", "-9999999", "10485760", "4294967296", "4294967297", "9223372036854775807", "9223372036854775808", "18446744073709551616", "18446744073709551617", "-18446744073709551617", "99999999999999999999", strings.Repeat("9", 1000)} {
		formIsWrong(t, "3p"+e)
	}
	for _, n := range []int{1, 15, 16, 17, 31, 32, 33, 4095, 4096} {
		for _, m := range []string{strings.Repeat("f", n), "8" + strings.Repeat("0", n-1), strings.Repeat("1", n)} {
			m = m[:n-1] + "1"
			textIs(t, "many digits", parsed(t, m+"p-5"), m+"p-5")
			textIs(t, "many digits, below 0", parsed(t, "-"+m+"p1048576"), "-"+m+"p1048576")
		}
	}
	for _, n := range []int{4097, 4098, 8192, 1 << 16} {
		formIsWrong(t, strings.Repeat("f", n)+"p0")
		formIsWrong(t, "-1"+strings.Repeat("0", n-2)+"1p0")
	}
	formIsWrong(t, strings.Repeat("0", 10)+strings.Repeat("f", 4090)+"p0")
	formIsWrong(t, strings.Repeat("f", 4096))
	d := Mul(parsed(t, strings.Repeat("f", 4096)+"p1048576"), Int(16).Sub(Int(1)))
	if s := d.Text(); len(s) != 4097+len("p1048576") {
		t.Error("a text has no bounds", len(s))
	}
	formIsWrong(t, d.Text())
	formIsWrong(t, Int(2).Shift(far).Text())
}
