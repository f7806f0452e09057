package pack_test

import (
	"math"
	"slices"
	"testing"

	"straightedge/api"
	"straightedge/num"
	"straightedge/pack"
	"straightedge/view"
)

const (
	most  = math.MaxInt
	least = math.MinInt
	guard = -77.5 // what stands between the numbers, beside them and behind the list
)

var (
	inf    = math.Inf(1)
	nan    = math.NaN()
	nought = math.Copysign(0, -1)
)

// odd are numbers of all kinds.
func odd() []float64 {
	return []float64{
		0, nought, math.SmallestNonzeroFloat64, -3 * math.SmallestNonzeroFloat64, 0x1p-1022, -0x1p-600, 0.1, -0.5,
		1, -1, 1 + 0x1p-52, -7, 1e16, 0x1p600, math.MaxFloat64, -math.MaxFloat64, inf, -inf, nan, nought,
	}
}

// laying is a way to lay a matrix' numbers in a list: with an Ld that is more by that than it must be.
type laying struct{ off, more, after int }

func layings() []laying {
	return []laying{{0, 0, 0}, {3, 0, 2}, {0, 1, 0}, {1, 2, 4}}
}

// laid is a matrix of the numbers l, row by row, with guards everywhere else, and behind the list's length.
func laid(w laying, rows, cols int, l ...float64) api.Mat {
	ld, n := max(1, rows)+w.more, 0
	if rows > 0 && cols > 0 {
		n = (cols-1)*ld + rows
	}
	m := api.Mat{D: guarded(slices.Repeat([]float64{guard}, w.off+n+w.after)...), Off: w.off, Rows: rows, Cols: cols, Ld: ld}
	for k, x := range l {
		m.D[w.off+k/cols+k%cols*ld] = x
	}
	return m
}

// guarded is a list of the numbers l, with guards behind its length.
func guarded(l ...float64) []float64 {
	n := len(l)
	d := append(slices.Clone(l), guard, guard, guard, guard, guard)
	return d[: n : n+5]
}

// mat is a matrix of the numbers l, row by row, and no more.
func mat(rows, cols int, l ...float64) api.Mat { return laid(laying{}, rows, cols, l...) }

// panel is a panel of the numbers l.
func panel(rows, cols int, l ...float64) pack.Panel {
	return pack.Panel{Rows: rows, Cols: cols, D: guarded(l...)}
}

// counted are the numbers from 1 on, n of them.
func counted(n int) []float64 {
	l := make([]float64, n)
	for k := range l {
		l[k] = float64(k + 1)
	}
	return l
}

// is looks whether d is want to the last bit, and its memory behind its length as it was.
func is(t *testing.T, what string, d, want []float64) {
	t.Helper()
	same(t, what, d, want)
	for _, x := range d[len(d):cap(d)] {
		if x != guard {
			t.Errorf("%s: written behind the list: %v", what, x)
		}
	}
}

// same looks whether d is want to the last bit.
func same(t *testing.T, what string, d, want []float64) {
	t.Helper()
	if !slices.EqualFunc(d, want, num.Same) {
		t.Errorf("%s: %v, not %v", what, d, want)
	}
}

func numberIs(t *testing.T, what string, got, want float64) {
	t.Helper()
	if !num.Same(got, want) {
		t.Errorf("%s: %v, not %v", what, got, want)
	}
}

func errorIs(t *testing.T, what string, got, want api.Errno) {
	t.Helper()
	if got != want {
		t.Errorf("%s: error %d, not %d", what, int(got), int(want))
	}
}

// panelIs looks whether p is of so many rows and columns, with the numbers want.
func panelIs(t *testing.T, what string, p pack.Panel, rows, cols int, want ...float64) {
	t.Helper()
	if p.Rows != rows || p.Cols != cols {
		t.Errorf("%s: %d rows and %d columns, not %d and %d", what, p.Rows, p.Cols, rows, cols)
	}
	same(t, what, p.D, want)
}

// wrong are matrices that aren't right, each by a thing of its own.
func wrong() []api.Mat {
	d := guarded(1, 2, 3, 4, 5, 6)
	return []api.Mat{
		{},
		{D: d},
		{D: d, Rows: 2, Cols: 2},
		{D: d, Rows: 2, Cols: 2, Ld: 1},
		{D: d, Rows: 2, Cols: 2, Ld: -2},
		{D: d, Rows: -1, Cols: 2, Ld: 2},
		{D: d, Rows: 2, Cols: -1, Ld: 2},
		{D: d, Off: -1, Rows: 2, Cols: 2, Ld: 2},
		{D: d, Off: 3, Rows: 2, Cols: 2, Ld: 2},
		{D: d, Rows: 2, Cols: 2, Ld: 5},
		{D: guarded(1, 2, 3), Rows: 2, Cols: 2, Ld: 2},
		{D: d, Rows: 2, Cols: 4, Ld: 2},
		{D: d, Rows: 2, Cols: 5, Ld: 1 << 62},
		{D: d, Rows: most, Cols: most, Ld: most, Off: most},
		{D: d, Rows: least, Cols: least, Ld: least, Off: least},
		{D: d, Ld: 0, Rows: 0, Cols: 2},
		{D: d, Ld: 65, Rows: 65, Cols: -1},
		{Rows: 1, Cols: 1, Ld: 1},
		{Rows: 2, Cols: 2, Ld: 2},
	}
}

// P12.1: Pack

// packs looks whether the matrix of the numbers l, row by row, comes to want, however it is laid, and isn't changed.
func packs(t *testing.T, what string, rows, cols int, l []float64, step, wantRows, wantCols int, want ...float64) {
	t.Helper()
	for _, w := range layings() {
		m := laid(w, rows, cols, l...)
		p, e := pack.Pack(m, step)
		errorIs(t, what, e, api.OK)
		panelIs(t, what, p, wantRows, wantCols, want...)
		is(t, what+", as it was", m.D, laid(w, rows, cols, l...).D)
	}
}

func TestPack(t *testing.T) {
	six := counted(6)
	packs(t, "two rows", 2, 3, six, 1, 2, 3, six...)
	packs(t, "three rows", 3, 2, six, 1, 3, 2, six...)
	packs(t, "by 2, to the right", 2, 3, six, 2, 2, 4, 1, 2, 3, 0, 4, 5, 6, 0)
	packs(t, "by 2, below", 3, 2, six, 2, 4, 2, 1, 2, 3, 4, 5, 6, 0, 0)
	packs(t, "by 3, below", 2, 3, six, 3, 3, 3, 1, 2, 3, 4, 5, 6, 0, 0, 0)
	packs(t, "by 3, to the right", 3, 2, six, 3, 3, 3, 1, 2, 0, 3, 4, 0, 5, 6, 0)
	packs(t, "by 4, both", 2, 3, six, 4, 4, 4, 1, 2, 3, 0, 4, 5, 6, 0, 0, 0, 0, 0, 0, 0, 0, 0)
	packs(t, "one number", 1, 1, []float64{-5}, 1, 1, 1, -5)
	packs(t, "one number by 2", 1, 1, []float64{-5}, 2, 2, 2, -5, 0, 0, 0)
	packs(t, "a row", 1, 3, six[:3], 2, 2, 4, 1, 2, 3, 0, 0, 0, 0, 0)
	packs(t, "a column", 3, 1, six[:3], 2, 4, 2, 1, 0, 2, 0, 3, 0, 0, 0)
}

func TestPackOfEachStep(t *testing.T) {
	for step := 1; step <= 64; step++ {
		for _, rows := range []int{0, 1, 2, 5, 32, 63, 64} {
			for _, cols := range []int{0, 1, 3, 8, 33, 64} {
				l := counted(rows * cols)
				wantRows, wantCols := 0, 0
				for wantRows < rows {
					wantRows += step
				}
				for wantCols < cols {
					wantCols += step
				}
				want := make([]float64, wantRows*wantCols)
				for k, x := range l {
					want[k/cols*wantCols+k%cols] = x
				}
				p, e := pack.Pack(mat(rows, cols, l...), step)
				errorIs(t, "each step", e, api.OK)
				panelIs(t, "each step", p, wantRows, wantCols, want...)
			}
		}
	}
}

func TestPackOfNumbersOfAllKinds(t *testing.T) {
	l := odd()
	packs(t, "a row", 1, len(l), l, 1, 1, len(l), l...)
	packs(t, "a column", len(l), 1, l, 1, len(l), 1, l...)
	packs(t, "a table", 4, 5, l, 1, 4, 5, l...)
	for _, x := range l {
		packs(t, "noughts beside it", 1, 1, []float64{x}, 2, 2, 2, x, 0, 0, 0)
	}
}

func TestPackOfNoNumbers(t *testing.T) {
	packs(t, "nothing", 0, 0, nil, 1, 0, 0)
	packs(t, "nothing by 64", 0, 0, nil, 64, 0, 0)
	packs(t, "no rows", 0, 3, nil, 2, 0, 4)
	packs(t, "no columns", 3, 0, nil, 2, 4, 0)
	packs(t, "no rows, 64 columns", 0, 64, nil, 63, 0, 126)
	packs(t, "no columns, 64 rows", 64, 0, nil, 63, 126, 0)
	for _, far := range []int{1, 64, 1 << 31, most - 1, most} {
		p, e := pack.Pack(api.Mat{Off: far, Cols: 5, Ld: far}, 3)
		errorIs(t, "no rows, far off", e, api.OK)
		panelIs(t, "no rows, far off", p, 0, 6)
		p, e = pack.Pack(api.Mat{D: guarded(1), Off: far, Rows: 1, Ld: far}, 3)
		errorIs(t, "no columns, far off", e, api.OK)
		panelIs(t, "no columns, far off", p, 3, 0)
	}
}

func TestPackOfAPart(t *testing.T) {
	m := mat(3, 4, counted(12)...)
	p, e := pack.Pack(view.Part(m, 1, 1, 2, 2), 3)
	errorIs(t, "a part", e, api.OK)
	panelIs(t, "a part", p, 3, 3, 6, 7, 0, 10, 11, 0, 0, 0, 0)
	p, e = pack.Pack(view.Part(m, 0, 3, 3, 1), 1)
	errorIs(t, "the last column", e, api.OK)
	panelIs(t, "the last column", p, 3, 1, 4, 8, 12)
	p, e = pack.Pack(api.Mat{D: guarded(1, 2, 3), Rows: 1, Cols: 2, Ld: 2}, 2)
	errorIs(t, "far apart", e, api.OK)
	panelIs(t, "far apart", p, 2, 2, 1, 3, 0, 0)
}

func TestPanelsAreNewMemory(t *testing.T) {
	m := mat(2, 2, 1, 2, 3, 4)
	p, _ := pack.Pack(m, 1)
	for k := range p.D[:cap(p.D)] {
		p.D[:cap(p.D)][k] = 9
	}
	is(t, "the panel is written over", m.D, []float64{1, 3, 2, 4})
	q, _ := pack.Pack(m, 1)
	panelIs(t, "again", q, 2, 2, 1, 2, 3, 4)
	view.Set(m, 0, 0, 5)
	panelIs(t, "the matrix is written over", q, 2, 2, 1, 2, 3, 4)
}

// nothing looks whether Pack answers that error, and a zero panel.
func nothing(t *testing.T, what string, m api.Mat, step int, want api.Errno) {
	t.Helper()
	was := slices.Clone(m.D)
	p, e := pack.Pack(m, step)
	errorIs(t, what, e, want)
	panelIs(t, what, p, 0, 0)
	is(t, what, m.D, was)
}

func TestErrorsOfPack(t *testing.T) {
	for _, step := range []int{1, 2, 64, 0, 65, least, most} {
		for _, m := range wrong() {
			nothing(t, "not right", m, step, api.ErrArg)
		}
	}
	for _, step := range []int{least, -64, -1, 0, 65, 128, 1 << 32, most} {
		nothing(t, "no step", mat(2, 2, 1, 2, 3, 4), step, api.ErrArg)
		nothing(t, "no step of no numbers", mat(0, 0), step, api.ErrArg)
		nothing(t, "no step, 65 rows", mat(65, 1, counted(65)...), step, api.ErrArg)
		nothing(t, "no step, 65 columns without rows", mat(0, 65), step, api.ErrArg)
	}
	for _, step := range []int{1, 2, 13, 64} {
		nothing(t, "65 rows", mat(65, 1, counted(65)...), step, api.ErrSize)
		nothing(t, "65 columns", mat(1, 65, counted(65)...), step, api.ErrSize)
		nothing(t, "65 rows without columns", mat(65, 0), step, api.ErrSize)
		nothing(t, "65 columns without rows", mat(0, 65), step, api.ErrSize)
		for _, n := range []int{1 << 31, most - 1, most} {
			nothing(t, "many rows", api.Mat{Rows: n, Ld: n}, step, api.ErrSize)
			nothing(t, "many columns", api.Mat{Cols: n, Ld: 1}, step, api.ErrSize)
		}
	}
}

// P12.1: At

func TestAt(t *testing.T) {
	p := panel(2, 3, 1, 2, 3, 4, 5, nought)
	numberIs(t, "0, 0", p.At(0, 0), 1)
	numberIs(t, "0, 1", p.At(0, 1), 2)
	numberIs(t, "0, 2", p.At(0, 2), 3)
	numberIs(t, "1, 0", p.At(1, 0), 4)
	numberIs(t, "1, 1", p.At(1, 1), 5)
	numberIs(t, "1, 2", p.At(1, 2), nought)
	q := panel(3, 2, 1, 2, 3, nan, 5, inf)
	numberIs(t, "2, 1", q.At(2, 1), inf)
	numberIs(t, "1, 1 of three rows", q.At(1, 1), nan)
	numberIs(t, "2, 0", q.At(2, 0), 5)
	is(t, "as it was", p.D, []float64{1, 2, 3, 4, 5, nought})
}

func TestAtBeyond(t *testing.T) {
	p := panel(2, 3, 1, 2, 3, 4, 5, 6)
	for _, k := range []int{least, -most, -1 << 32, -4, -3, -2, -1} {
		numberIs(t, "a row below 0", p.At(k, 2), 0)
		numberIs(t, "a column below 0", p.At(1, k), 0)
		numberIs(t, "both below 0", p.At(k, k), 0)
	}
	for _, k := range []int{3, 4, 5, 1 << 32, 1 << 62, most - 1, most} {
		numberIs(t, "a row too far", p.At(k, 0), 0)
		numberIs(t, "a column too far", p.At(0, k), 0)
		numberIs(t, "both too far", p.At(k, k), 0)
	}
	numberIs(t, "the row below", p.At(2, 0), 0)
	numberIs(t, "a column further, which would be the next row's", p.At(0, 3), 0)
	for _, l := range [][]float64{nil, {1, 2, 3}} {
		for _, q := range []pack.Panel{{D: l}, {Rows: 1, D: l}, {Cols: 1, D: l}, {Rows: -1, Cols: 1, D: l}, {Rows: 1, Cols: -1, D: l}, {Rows: -1, Cols: -1, D: l}, {Rows: least, Cols: least, D: l}} {
			for _, i := range edges() {
				for _, j := range edges() {
					numberIs(t, "without numbers", q.At(i, j), 0)
				}
			}
		}
	}
}

func TestAtOfListsTooShortAndTooLong(t *testing.T) {
	p := panel(3, 2, 1, 2, 3)
	numberIs(t, "there", p.At(0, 1), 2)
	numberIs(t, "the last one", p.At(1, 0), 3)
	numberIs(t, "the first one that isn't", p.At(1, 1), 0)
	numberIs(t, "the next row", p.At(2, 0), 0)
	numberIs(t, "the last row", p.At(2, 1), 0)
	long := panel(2, 1, 1, 2, 3)
	numberIs(t, "a longer list", long.At(1, 0), 2)
	numberIs(t, "a longer list, beyond", long.At(2, 0), 0)
	wide := panel(1, most, 1, 2, 3)
	numberIs(t, "many columns", wide.At(0, 2), 3)
	numberIs(t, "many columns, beyond", wide.At(0, 3), 0)
	numberIs(t, "many columns, far beyond", wide.At(0, most-1), 0)
	high := panel(most, 1, 1, 2, 3)
	numberIs(t, "many rows", high.At(2, 0), 3)
	numberIs(t, "many rows, beyond", high.At(3, 0), 0)
	numberIs(t, "many rows, far beyond", high.At(most-1, 0), 0)
}

func TestAtWherePlacesGoBeyondAnInt(t *testing.T) {
	l := counted(6)
	numberIs(t, "2^32 times 2^32", panel(most, 1<<32, l...).At(1<<32, 0), 0)
	numberIs(t, "2^32 times 2^32, and 1", panel(most, 1<<32, l...).At(1<<32, 1), 0)
	numberIs(t, "4 times 2^62", panel(5, 1<<62, l...).At(4, 3), 0)
	numberIs(t, "2 times 2^63 - 1, and 3", panel(3, most, l...).At(2, 3), 0)
	numberIs(t, "the greatest of all", panel(most, most, l...).At(most-1, most-1), 0)
	numberIs(t, "the greatest of all, row 1", panel(most, most, l...).At(1, most-1), 0)
	numberIs(t, "a square that comes to 1", panel(most, most, l...).At(most-2, 2), 0)
}

// P12.1: Unpack

// unpacks looks whether so many rows and columns become want, row by row, however they are laid, and nothing else changes.
func unpacks(t *testing.T, what string, p pack.Panel, rows, cols int, want ...float64) {
	t.Helper()
	was := slices.Clone(p.D)
	for _, w := range layings() {
		m := laid(w, rows, cols, slices.Repeat([]float64{nan}, rows*cols)...)
		errorIs(t, what, p.Unpack(m), api.OK)
		is(t, what, m.D, laid(w, rows, cols, want...).D)
		is(t, what+", the panel", p.D, was)
	}
}

func TestUnpack(t *testing.T) {
	p := panel(3, 4, counted(12)...)
	unpacks(t, "all", p, 3, 4, counted(12)...)
	unpacks(t, "fewer columns", p, 3, 2, 1, 2, 5, 6, 9, 10)
	unpacks(t, "fewer rows", p, 2, 4, counted(8)...)
	unpacks(t, "fewer of both", p, 2, 3, 1, 2, 3, 5, 6, 7)
	unpacks(t, "one number", p, 1, 1, 1)
	unpacks(t, "a row", p, 1, 4, 1, 2, 3, 4)
	unpacks(t, "a column", p, 3, 1, 1, 5, 9)
	unpacks(t, "no rows", p, 0, 4)
	unpacks(t, "no columns", p, 3, 0)
	unpacks(t, "nothing", p, 0, 0)
	unpacks(t, "a row alone", panel(1, 3, 7, 8, 9), 1, 3, 7, 8, 9)
	unpacks(t, "a column alone", panel(3, 1, 7, 8, 9), 3, 1, 7, 8, 9)
	unpacks(t, "nothing of nothing", pack.Panel{}, 0, 0)
	l := odd()
	unpacks(t, "numbers of all kinds", panel(4, 5, l...), 4, 5, l...)
	unpacks(t, "more than 64 rows", panel(70, 2, counted(140)...), 70, 1, byStep(counted(140), 2)...)
	unpacks(t, "more than 64 columns", panel(2, 70, counted(140)...), 2, 70, counted(140)...)
}

// byStep is each number of l whose place is a multiple of step.
func byStep(l []float64, step int) []float64 {
	var some []float64
	for k := 0; k < len(l); k += step {
		some = append(some, l[k])
	}
	return some
}

func TestUnpackOfWhatWasPacked(t *testing.T) {
	for _, rows := range []int{0, 1, 2, 7, 63, 64} {
		for _, cols := range []int{0, 1, 3, 8, 64} {
			for _, step := range []int{1, 2, 5, 8, 63, 64} {
				m := mat(rows, cols, counted(rows*cols)...)
				p, _ := pack.Pack(m, step)
				back := view.Dense(rows, cols)
				errorIs(t, "packed", p.Unpack(back), api.OK)
				same(t, "packed", back.D, m.D)
			}
		}
	}
}

func TestUnpackOfNoNumbersAnywhere(t *testing.T) {
	for _, n := range []int{0, 1, 2, 64, 65, 1 << 31, most - 1, most} {
		for _, off := range []int{0, 1, most} {
			wide, high := api.Mat{Off: off, Cols: n, Ld: 1}, api.Mat{D: guarded(1), Off: off, Rows: n, Ld: max(1, n)}
			for _, more := range []int{n, most} {
				errorIs(t, "columns without rows", pack.Panel{Cols: more}.Unpack(wide), api.OK)
				errorIs(t, "rows without columns", pack.Panel{Rows: more}.Unpack(high), api.OK)
			}
			is(t, "as it was", high.D, []float64{1})
			if n > 0 {
				errorIs(t, "fewer columns", pack.Panel{Cols: n - 1}.Unpack(wide), api.ErrSize)
				errorIs(t, "fewer rows", pack.Panel{Rows: n - 1}.Unpack(high), api.ErrSize)
				errorIs(t, "rows for columns", pack.Panel{Rows: n}.Unpack(wide), api.ErrSize)
				errorIs(t, "columns for rows", pack.Panel{Cols: n}.Unpack(high), api.ErrSize)
			}
			if n < 6 {
				errorIs(t, "columns of a panel with numbers", panel(1, 6, counted(6)...).Unpack(wide), api.OK)
				errorIs(t, "rows of a panel with numbers", panel(6, 1, counted(6)...).Unpack(high), api.OK)
				is(t, "as it was", high.D, []float64{1})
			}
		}
	}
}

func TestUnpackToThePanelsOwnList(t *testing.T) {
	p := panel(2, 3, counted(6)...)
	errorIs(t, "turned about", p.Unpack(api.Mat{D: p.D, Rows: 2, Cols: 3, Ld: 2}), api.OK)
	is(t, "turned about", p.D, []float64{1, 4, 2, 5, 3, 6})
	p = panel(3, 2, counted(6)...)
	errorIs(t, "turned about", p.Unpack(api.Mat{D: p.D, Rows: 3, Cols: 2, Ld: 3}), api.OK)
	is(t, "turned about", p.D, []float64{1, 3, 5, 2, 4, 6})
	p = panel(1, 4, 1, 2, 3, 4)
	errorIs(t, "one on", p.Unpack(api.Mat{D: p.D, Off: 1, Rows: 1, Cols: 3, Ld: 1}), api.OK)
	is(t, "one on", p.D, []float64{1, 1, 2, 3})
}

// wrongPanels are panels whose list isn't just as long as their rows and columns ask.
func wrongPanels() []pack.Panel {
	six := counted(6)
	return []pack.Panel{
		panel(2, 3, six[:5]...), panel(2, 3, counted(7)...), panel(3, 2, six[:5]...), panel(3, 2, counted(7)...),
		panel(2, 3), panel(2, 3, six[:4]...), panel(2, 3, six[:3]...), panel(2, 2, six...), panel(3, 3, six...),
		panel(2, 3, counted(9)...), panel(2, 3, counted(8)...), panel(4, 3, counted(14)...),
		panel(0, 0, 1), panel(0, 3, 1, 2, 3), panel(3, 0, 1, 2, 3), panel(6, 0, six...), panel(0, 6, six...), panel(0, 2, 1), panel(2, 0, 1),
		panel(1, 1), panel(-1, 0), panel(0, -1), panel(-1, -1), panel(-1, -6, six...), panel(-2, -3, six...), panel(2, -3, six...), panel(-2, 3, six...),
		panel(least, 0), panel(0, least), panel(least, least), panel(least, 2), panel(2, least), panel(-1, most), panel(most, -1),
		panel(1<<32, 1<<32), panel(1<<62, 4), panel(4, 1<<62), panel(most, most, 1), panel(most, 2), panel(2, most),
		panel(1<<62, 5, counted(1)...), panel(1<<62+1, 4, 1, 2, 3, 4), panel(4, 1<<62+1, 1, 2, 3, 4), panel(most, 1), panel(1, most), panel(most, -2, 1, 2),
	}
}

// unchanged looks whether Unpack answers that error, and changes nothing.
func unchanged(t *testing.T, what string, p pack.Panel, m api.Mat, want api.Errno) {
	t.Helper()
	was, ofPanel := slices.Clone(m.D), slices.Clone(p.D)
	errorIs(t, what, p.Unpack(m), want)
	is(t, what, m.D, was)
	is(t, what+", the panel", p.D, ofPanel)
}

func TestErrorsOfUnpack(t *testing.T) {
	for _, m := range wrong() {
		unchanged(t, "not right", panel(2, 3, counted(6)...), m, api.ErrArg)
		unchanged(t, "not right, and nothing of it", pack.Panel{}, m, api.ErrArg)
		unchanged(t, "not right, of a panel without numbers", pack.Panel{Rows: most}, m, api.ErrArg)
		for _, p := range wrongPanels() {
			unchanged(t, "neither is right", p, m, api.ErrArg)
		}
	}
	for _, p := range wrongPanels() {
		for _, m := range []api.Mat{mat(0, 0), mat(1, 1, 5), mat(2, 2, 1, 2, 3, 4), mat(2, 3, counted(6)...), mat(3, 0), mat(0, 3), mat(9, 9, counted(81)...), {Rows: most, Ld: most}} {
			unchanged(t, "a panel that isn't whole", p, m, api.ErrArg)
		}
	}
}

func TestSizesOfUnpack(t *testing.T) {
	p := panel(2, 3, counted(6)...)
	for _, s := range [][2]int{{3, 3}, {2, 4}, {3, 4}, {1, 4}, {3, 1}, {3, 2}, {6, 1}, {1, 6}, {9, 9}} {
		unchanged(t, "too great", p, mat(s[0], s[1], counted(s[0]*s[1])...), api.ErrSize)
	}
	unchanged(t, "too many rows without numbers", p, mat(3, 0), api.ErrSize)
	unchanged(t, "too many columns without numbers", p, mat(0, 4), api.ErrSize)
	unchanged(t, "one number of nothing", pack.Panel{}, mat(1, 1, 5), api.ErrSize)
	unchanged(t, "numbers of columns without rows", pack.Panel{Cols: 9}, mat(1, 1, 5), api.ErrSize)
	unchanged(t, "numbers of rows without columns", pack.Panel{Rows: 9}, mat(1, 1, 5), api.ErrSize)
}

// P12.2: Blocks

// cutTo looks whether blocks are want.
func cutTo(t *testing.T, what string, blocks [][2]int, want ...[2]int) {
	t.Helper()
	if !slices.Equal(blocks, want) {
		t.Errorf("%s: %v, not %v", what, blocks, want)
	}
}

func TestBlocks(t *testing.T) {
	cutTo(t, "the document's", pack.Blocks(7, 3), [2]int{0, 3}, [2]int{3, 3}, [2]int{6, 1})
	cutTo(t, "the document's, with 4", pack.Blocks(7, 3, 4), [2]int{0, 3}, [2]int{3, 1}, [2]int{4, 2}, [2]int{6, 1})
	cutTo(t, "just so many", pack.Blocks(6, 3), [2]int{0, 3}, [2]int{3, 3})
	cutTo(t, "one place", pack.Blocks(1, 1), [2]int{0, 1})
	cutTo(t, "each alone", pack.Blocks(3, 1), [2]int{0, 1}, [2]int{1, 1}, [2]int{2, 1})
	cutTo(t, "one block", pack.Blocks(3, 3), [2]int{0, 3})
	cutTo(t, "a greater size", pack.Blocks(3, 4), [2]int{0, 3})
	cutTo(t, "the greatest size", pack.Blocks(3, most), [2]int{0, 3})
	cutTo(t, "the greatest size, and 2", pack.Blocks(3, most, 2), [2]int{0, 2}, [2]int{2, 1})
	cutTo(t, "a size that doubled goes beyond an int", pack.Blocks(4096, 1<<62), [2]int{0, 4096})
}

func TestBlocksThatAreCutMore(t *testing.T) {
	plain := [][2]int{{0, 3}, {3, 3}, {6, 1}}
	cutTo(t, "where they begin", pack.Blocks(7, 3, 0, 3, 6), plain...)
	cutTo(t, "at the end", pack.Blocks(7, 3, 7), plain...)
	cutTo(t, "not among them", pack.Blocks(7, 3, -1, 8, 9, -3, least, most), plain...)
	cutTo(t, "none", pack.Blocks(7, 3, []int{}...), plain...)
	cutTo(t, "falling, and more than once", pack.Blocks(7, 3, 5, 4, 5, 1, 4, 1, 7, 0), [2]int{0, 1}, [2]int{1, 2}, [2]int{3, 1}, [2]int{4, 1}, [2]int{5, 1}, [2]int{6, 1})
	cutTo(t, "the last place", pack.Blocks(7, 7, 6), [2]int{0, 6}, [2]int{6, 1})
	cutTo(t, "the place after the first", pack.Blocks(7, 7, 1), [2]int{0, 1}, [2]int{1, 6})
	many := slices.Repeat([]int{2, 5, 9, -2}, 1<<16)
	cutTo(t, "very many", pack.Blocks(7, 9, many...), [2]int{0, 2}, [2]int{2, 3}, [2]int{5, 2})
}

// wanted are the blocks by the document's words: a place is cut if it is a multiple of size, or one of more.
func wanted(n, size int, more []int) [][2]int {
	var blocks [][2]int
	begin := 0
	for p := 1; p <= n; p++ {
		if p == n || p%size == 0 || slices.Contains(more, p) {
			blocks = append(blocks, [2]int{begin, p - begin})
			begin = p
		}
	}
	return blocks
}

func TestBlocksOfEachSize(t *testing.T) {
	for n := 1; n <= 20; n++ {
		for size := 1; size <= 22; size++ {
			for _, more := range [][]int{nil, {0}, {n}, {1}, {n - 1}, {4, 2}, {13, 7, 7}, {-1, n + 1, 3}, {19, 18, 17, 5, 0, 11, -5, 20, 2}} {
				cutTo(t, "each size", pack.Blocks(n, size, more...), wanted(n, size, more)...)
			}
		}
	}
	for _, n := range []int{64, 1000, 4095, 4096} {
		for _, size := range []int{1, 2, 7, 63, 64, 65, 1000, 4094, 4095, 4096, 4097, most} {
			more := []int{4095, 4096, 4097, 999, 1, 2048, n}
			cutTo(t, "many places", pack.Blocks(n, size), wanted(n, size, nil)...)
			cutTo(t, "many places, and more", pack.Blocks(n, size, more...), wanted(n, size, more)...)
		}
	}
}

func TestNoBlocks(t *testing.T) {
	for _, n := range []int{least, -4096, -7, -1, 0, 4097, 4098, 1 << 20, 1 << 62, most} {
		for _, size := range edges() {
			cutTo(t, "not so many", pack.Blocks(n, size))
			cutTo(t, "not so many, cut", pack.Blocks(n, size, 0, 1, 2, n))
		}
	}
	for _, size := range []int{least, -4096, -7, -1, 0} {
		for _, n := range []int{1, 2, 7, 4096} {
			cutTo(t, "no size", pack.Blocks(n, size))
			cutTo(t, "no size, cut", pack.Blocks(n, size, 0, 1, 2, n))
		}
	}
}

func TestMemoryOfBlocks(t *testing.T) {
	all := []int{5, 9, 2, 2, -1, 4, 77, 78}
	more := all[:5]
	first := pack.Blocks(7, 3, more...)
	if !slices.Equal(all, []int{5, 9, 2, 2, -1, 4, 77, 78}) {
		t.Errorf("what was handed in is now %v", all)
	}
	want := [][2]int{{0, 2}, {2, 1}, {3, 2}, {5, 1}, {6, 1}}
	cutTo(t, "of a longer list", first, want...)
	for k := range first {
		first[k] = [2]int{9, 9}
	}
	cutTo(t, "again", pack.Blocks(7, 3, more...), want...)
}

// P1

func edges() []int { return []int{least, -1, 0, 1, 2, 3, 4, 1 << 31, 1 << 62, most - 1, most} }

func TestEveryCallEnds(t *testing.T) {
	for _, l := range [][]float64{nil, {1, 2, 3, 4}} {
		for _, rows := range edges() {
			for _, cols := range edges() {
				anyPanel(t, pack.Panel{Rows: rows, Cols: cols, D: slices.Clone(l)})
				for _, off := range edges() {
					for _, ld := range edges() {
						anyMatrix(t, api.Mat{D: slices.Clone(l), Off: off, Rows: rows, Cols: cols, Ld: ld})
					}
				}
			}
		}
	}
}

// anyPanel looks whether p has just the numbers of its list that its rows and columns ask for.
func anyPanel(t *testing.T, p pack.Panel) {
	t.Helper()
	for _, i := range edges() {
		for _, j := range edges() {
			want := 0.0
			if 0 <= i && i < p.Rows && 0 <= j && j < p.Cols && i < 4 && j < 4 && p.Cols <= 4 && i*p.Cols+j < len(p.D) || i == 0 && p.Rows > 0 && 0 <= j && j < min(len(p.D), p.Cols) {
				want = p.D[i*p.Cols+j]
			}
			numberIs(t, "At", p.At(i, j), want)
		}
	}
	whole := p.Rows >= 0 && p.Cols >= 0 && (p.Rows == 0 || p.Cols == 0) && len(p.D) == 0
	for _, s := range [][2]int{{1, 4}, {2, 2}, {4, 1}} {
		whole = whole || len(p.D) == 4 && p.Rows == s[0] && p.Cols == s[1]
	}
	want := api.ErrArg
	if whole {
		want = api.OK
	}
	errorIs(t, "Unpack to nothing", p.Unpack(view.Dense(0, 0)), want)
	if whole && len(p.D) == 0 {
		want = api.ErrSize
	}
	errorIs(t, "Unpack", p.Unpack(view.Dense(1, 1)), want)
}

// anyMatrix looks whether each call tells of m whether it is right, and of the size that it asks for.
func anyMatrix(t *testing.T, m api.Mat) {
	t.Helper()
	expected := func(fits bool) api.Errno {
		switch {
		case !view.Good(m):
			return api.ErrArg
		case !fits:
			return api.ErrSize
		}
		return api.OK
	}
	for _, step := range []int{1, 3, 64} {
		p, e := pack.Pack(m, step)
		errorIs(t, "Pack", e, expected(max(m.Rows, m.Cols) <= api.MaxSize))
		if e != api.OK {
			panelIs(t, "Pack", p, 0, 0)
		}
	}
	errorIs(t, "Unpack", panel(2, 2, 5, 6, 7, 8).Unpack(m), expected(m.Rows <= 2 && m.Cols <= 2))
	errorIs(t, "Unpack of many rows", pack.Panel{Rows: most}.Unpack(m), expected(m.Cols == 0))
	errorIs(t, "Unpack of many columns", pack.Panel{Cols: most}.Unpack(m), expected(m.Rows == 0))
}
