package view

import (
	"math"
	"math/big"
	"slices"
	"testing"

	"straightedge/api"
)

const (
	most  = math.MaxInt
	least = math.MinInt
)

// edges are numbers at which descriptors turn from right to wrong, and numbers whose sums and products go beyond an int.
func edges() []int {
	return []int{least, least + 1, -2, -1, 0, 1, 2, 3, 4, 5, 1 << 31, 1<<32 + 1, 1 << 61, 1 << 62, most/2 + 2, most - 1, most}
}

// counted is the list 1, 2, .., n, with room of numbers behind it that nobody may read or write.
func counted(n int) []float64 {
	l := make([]float64, n, n+9)
	for i := range l[:cap(l)] {
		l[:cap(l)][i] = math.NaN()
		if i < n {
			l[i] = float64(i + 1)
		}
	}
	return l
}

func lists() [][]float64 { return [][]float64{nil, {}, counted(0), counted(1), counted(4), counted(9)} }

// ends tells whether off + n1 a + n2 b is in a list of that length, over the whole numbers.
func ends(length, off, n1, a, n2, b int) bool {
	p := new(big.Int).Mul(big.NewInt(int64(n1)), big.NewInt(int64(a)))
	q := new(big.Int).Mul(big.NewInt(int64(n2)), big.NewInt(int64(b)))
	p.Add(p, q).Add(p, big.NewInt(int64(off)))
	return p.Cmp(big.NewInt(int64(length))) < 0
}

// isRight and isGood are the document's words, over the whole numbers.
func isRight(v api.Vec) bool {
	return v.N >= 0 && v.Inc >= 1 && v.Off >= 0 && (v.N == 0 || ends(len(v.D), v.Off, v.N-1, v.Inc, 0, 0))
}

func isGood(m api.Mat) bool {
	if m.Rows < 0 || m.Cols < 0 || m.Ld < 1 || m.Ld < m.Rows || m.Off < 0 {
		return false
	}
	return m.Rows == 0 || m.Cols == 0 || ends(len(m.D), m.Off, m.Cols-1, m.Ld, m.Rows-1, 1)
}

// oneList tells whether a and b begin at one place and are of one length.
func oneList(a, b []float64) bool {
	return len(a) == len(b) && (len(a) == 0 || &a[0] == &b[0])
}

func vecIs(t *testing.T, what string, got, want api.Vec) {
	t.Helper()
	if !oneList(got.D, want.D) || got.Off != want.Off || got.N != want.N || got.Inc != want.Inc {
		t.Errorf("%s: got %v, want %v", what, got, want)
	}
}

func matIs(t *testing.T, what string, got, want api.Mat) {
	t.Helper()
	if !oneList(got.D, want.D) || got.Off != want.Off || got.Rows != want.Rows || got.Cols != want.Cols || got.Ld != want.Ld {
		t.Errorf("%s: got %v, want %v", what, got, want)
	}
}

// small are all right matrices within d of up to 3 rows and columns, with Off up to 2 and Ld up to 4; some have no numbers.
func small(d []float64) []api.Mat {
	var all []api.Mat
	for off := range 3 {
		for rows := range 4 {
			for cols := range 4 {
				for ld := range 5 {
					if m := (api.Mat{D: d, Off: off, Rows: rows, Cols: cols, Ld: ld}); isGood(m) {
						all = append(all, m)
					}
				}
			}
		}
	}
	return all
}

// wrong are matrices that aren't right, each by a thing of its own.
func wrong() []api.Mat {
	d := counted(9)
	return []api.Mat{
		{},
		{D: d},
		{D: d, Rows: 2, Cols: 2},
		{D: d, Off: -1, Rows: 2, Cols: 2, Ld: 2},
		{D: d, Off: -1, Ld: 1},
		{D: d, Rows: -1, Cols: 2, Ld: 2},
		{D: d, Rows: 2, Cols: -1, Ld: 2},
		{D: d, Rows: 2, Cols: 2, Ld: 1},
		{D: d, Rows: 2, Cols: 0, Ld: 1},
		{D: d, Rows: 2, Cols: 2, Ld: -2},
		{D: d, Rows: 2, Cols: 5, Ld: 2},
		{D: d, Off: 6, Rows: 2, Cols: 2, Ld: 2},
		{D: d, Off: most, Rows: 2, Cols: 2, Ld: 2},
		{D: d, Rows: 2, Cols: most, Ld: 2},
		{D: d, Rows: 2, Cols: 2, Ld: most},
		{D: d, Rows: 1, Cols: 5, Ld: 1 << 62},
		{D: d, Rows: most, Cols: 1, Ld: most},
		{D: d, Off: most, Rows: most, Cols: most, Ld: most},
		{Rows: 1, Cols: 1, Ld: 1},
		{D: counted(0), Rows: 1, Cols: 1, Ld: 1},
	}
}

// P3.1

func TestRight(t *testing.T) {
	d := counted(10)
	for _, x := range []struct {
		v    api.Vec
		want bool
	}{
		{api.Vec{D: d, N: 10, Inc: 1}, true},
		{api.Vec{D: d, N: 11, Inc: 1}, false},
		{api.Vec{D: d, Off: 1, N: 3, Inc: 4}, true},
		{api.Vec{D: d, Off: 2, N: 3, Inc: 4}, false},
		{api.Vec{D: d, Off: 9, N: 1, Inc: most}, true},
		{api.Vec{D: d, Off: 10, N: 1, Inc: 1}, false},
		{api.Vec{Off: most, Inc: most}, true},
		{api.Vec{D: d, Inc: 0}, false},
		{api.Vec{D: d, Inc: -1}, false},
		{api.Vec{D: d, N: -1, Inc: 1}, false},
		{api.Vec{D: d, Off: -1, Inc: 1}, false},
		{api.Vec{D: d, N: 5, Inc: 1 << 62}, false}, // 4 times 2^62 goes round to 0
		{api.Vec{D: d, Off: most, N: 2, Inc: most}, false},
		{api.Vec{}, false},
	} {
		if Right(x.v) != x.want {
			t.Errorf("Right(%v): not %v", x.v, x.want)
		}
	}
}

func TestRightAtAllEdges(t *testing.T) {
	for _, d := range lists() {
		for _, off := range edges() {
			for _, n := range edges() {
				for _, inc := range edges() {
					if v := (api.Vec{D: d, Off: off, N: n, Inc: inc}); Right(v) != isRight(v) {
						t.Fatalf("Right(%v): not %v", v, isRight(v))
					}
				}
			}
		}
	}
}

func TestGood(t *testing.T) {
	d := counted(10)
	for _, x := range []struct {
		m    api.Mat
		want bool
	}{
		{api.Mat{D: d, Rows: 2, Cols: 5, Ld: 2}, true},
		{api.Mat{D: d, Off: 1, Rows: 2, Cols: 5, Ld: 2}, false},
		{api.Mat{D: d, Rows: 2, Cols: 3, Ld: 4}, true},
		{api.Mat{D: d, Rows: 3, Cols: 3, Ld: 4}, false},
		{api.Mat{D: d, Rows: 2, Cols: 4, Ld: 4}, false},
		{api.Mat{D: d, Rows: 10, Cols: 1, Ld: most}, true},
		{api.Mat{D: d, Rows: 11, Cols: 1, Ld: most}, false},
		{api.Mat{Ld: 1}, true},
		{api.Mat{Off: most, Cols: most, Ld: most}, true},
		{api.Mat{Off: most, Rows: most, Ld: most}, true},
		{api.Mat{Off: most, Rows: most, Ld: most - 1}, false},
		{api.Mat{Ld: 0}, false},
		{api.Mat{}, false},
	} {
		if Good(x.m) != x.want {
			t.Errorf("Good(%v): not %v", x.m, x.want)
		}
	}
	for _, m := range wrong() {
		if Good(m) {
			t.Errorf("Good(%v)", m)
		}
	}
}

func TestGoodAtAllEdges(t *testing.T) {
	for _, d := range [][]float64{nil, counted(0), counted(1), counted(9)} {
		for _, off := range edges() {
			for _, rows := range edges() {
				for _, cols := range edges() {
					for _, ld := range edges() {
						if m := (api.Mat{D: d, Off: off, Rows: rows, Cols: cols, Ld: ld}); Good(m) != isGood(m) {
							t.Fatalf("Good(%v): not %v", m, isGood(m))
						}
					}
				}
			}
		}
	}
}

func TestDense(t *testing.T) {
	for _, x := range []struct {
		rows, cols int
		l, want    []float64
	}{
		{2, 2, []float64{1, 2, 3, 4}, []float64{1, 3, 2, 4}},
		{2, 3, []float64{1, 2, 3, 4, 5, 6}, []float64{1, 4, 2, 5, 3, 6}},
		{3, 2, []float64{1, 2, 3, 4, 5, 6}, []float64{1, 3, 5, 2, 4, 6}},
		{2, 3, []float64{1, 2, 3, 4}, []float64{1, 4, 2, 0, 3, 0}},
		{2, 2, []float64{1, 2, 3, 4, 5, 6, 7}, []float64{1, 3, 2, 4}},
		{2, 2, nil, []float64{0, 0, 0, 0}},
		{1, 1, []float64{7}, []float64{7}},
		{0, 3, []float64{1, 2}, nil},
		{3, 0, []float64{1, 2}, nil},
		{0, 0, []float64{1}, nil},
		{0, 64, nil, nil},
		{64, 0, nil, nil},
	} {
		m := Dense(x.rows, x.cols, x.l...)
		if !slices.Equal(m.D, x.want) || m.Off != 0 || m.Rows != x.rows || m.Cols != x.cols || m.Ld != max(1, x.rows) || !isGood(m) {
			t.Errorf("Dense(%d, %d, %v): %v", x.rows, x.cols, x.l, m)
		}
	}
}

func TestDenseAtMaxSize(t *testing.T) {
	l := counted(api.MaxSize*api.MaxSize + 1)
	m := Dense(api.MaxSize, api.MaxSize, l...)
	if len(m.D) != api.MaxSize*api.MaxSize || m.Rows != 64 || m.Cols != 64 || m.Ld != 64 {
		t.Fatal(m.Rows, m.Cols, m.Ld, len(m.D))
	}
	for i := range 64 {
		for j := range 64 {
			if m.D[i+64*j] != float64(64*i+j+1) {
				t.Fatalf("%d, %d: %v", i, j, m.D[i+64*j])
			}
		}
	}
}

func TestDenseOfWrongSizes(t *testing.T) {
	sizes := []int{least, -64, -1, 0, 2, 64, 65, 1 << 32, 1 << 62, most}
	for _, rows := range sizes {
		for _, cols := range sizes {
			m := Dense(rows, cols, 1, 2, 3)
			if rows < 0 || rows > 64 || cols < 0 || cols > 64 {
				matIs(t, "a size that isn't one", m, api.Mat{})
			} else if m.Rows != rows || m.Cols != cols {
				t.Errorf("Dense(%d, %d): %d, %d", rows, cols, m.Rows, m.Cols)
			}
		}
	}
}

func TestDenseKeepsBits(t *testing.T) {
	nought := math.Copysign(0, -1)
	m := Dense(2, 2, nought, math.Inf(-1), math.NaN())
	if !math.Signbit(m.D[0]) || m.D[2] != math.Inf(-1) || m.D[1] == m.D[1] || math.Signbit(m.D[3]) || m.D[3] != 0 {
		t.Error(m.D)
	}
}

func TestDenseIsNew(t *testing.T) {
	l := counted(4)
	m := Dense(2, 2, l...)
	column := Dense(4, 1, l...) // its list is as l is
	m.D[0], column.D[1] = 50, 60
	if !slices.Equal(l, counted(4)) {
		t.Error("the matrix' numbers are the caller's:", l)
	}
	l[3] = 70
	if m.D[3] != 4 || column.D[3] != 4 || Dense(2, 2).D[0] != 0 {
		t.Error("the caller's numbers are the matrix':", m, column)
	}
}

// P3.2

func TestAt(t *testing.T) {
	d := counted(12)
	m := api.Mat{D: d, Off: 2, Rows: 2, Cols: 3, Ld: 4}
	if At(m, 0, 0) != 3 || At(m, 1, 0) != 4 || At(m, 0, 1) != 7 || At(m, 1, 2) != 12 {
		t.Error("numbers of", m)
	}
	for _, m := range small(d) {
		for i := -2; i < 6; i++ {
			for j := -2; j < 6; j++ {
				want := 0.0
				if 0 <= i && i < m.Rows && 0 <= j && j < m.Cols {
					want = d[m.Off+i+j*m.Ld]
				}
				if got := At(m, i, j); got != want || math.Signbit(got) {
					t.Errorf("At(%v, %d, %d): %v, not %v", m, i, j, got, want)
				}
			}
		}
	}
	if !slices.Equal(d, counted(12)) {
		t.Error("changed by being read:", d)
	}
}

func TestSet(t *testing.T) {
	for _, m := range small(counted(12)) {
		for i := -2; i < 6; i++ {
			for j := -2; j < 6; j++ {
				m.D = counted(12)
				want := counted(12)
				is := 0 <= i && i < m.Rows && 0 <= j && j < m.Cols
				if is {
					want[m.Off+i+j*m.Ld] = -5
				}
				if Set(m, i, j, -5) != is || !slices.Equal(m.D, want) {
					t.Errorf("Set(%v, %d, %d): %v", m, i, j, m.D)
				}
				behindIsLeft(t, m.D)
			}
		}
	}
}

// behindIsLeft looks behind the length of a list of counted.
func behindIsLeft(t *testing.T, d []float64) {
	t.Helper()
	for _, x := range d[len(d):cap(d)] {
		if x == x {
			t.Errorf("written behind the list: %v", x)
		}
	}
}

func TestAtAndSetOfAnyNumber(t *testing.T) {
	m := Dense(2, 2)
	for _, x := range []float64{0, math.Copysign(0, -1), math.Inf(1), math.SmallestNonzeroFloat64, -math.MaxFloat64} {
		if !Set(m, 1, 0, x) || math.Float64bits(At(m, 1, 0)) != math.Float64bits(x) {
			t.Error(x, m)
		}
	}
	if !Set(m, 0, 1, math.NaN()) || At(m, 0, 1) == At(m, 0, 1) {
		t.Error("a NaN:", m)
	}
}

func TestRow(t *testing.T) {
	d := counted(12)
	vecIs(t, "row 1", Row(api.Mat{D: d, Off: 2, Rows: 2, Cols: 3, Ld: 4}, 1), api.Vec{D: d, Off: 3, N: 3, Inc: 4})
	for _, m := range small(d) {
		for i := -2; i < 6; i++ {
			want := api.Vec{}
			if 0 <= i && i < m.Rows {
				want = api.Vec{D: d, Off: m.Off, N: m.Cols, Inc: m.Ld}
				if m.Cols > 0 {
					want.Off += i
				}
				if !isRight(want) {
					t.Fatal("a row that isn't right:", want)
				}
			}
			vecIs(t, "row", Row(m, i), want)
		}
	}
}

func TestCol(t *testing.T) {
	d := counted(12)
	vecIs(t, "column 2", Col(api.Mat{D: d, Off: 2, Rows: 2, Cols: 3, Ld: 4}, 2), api.Vec{D: d, Off: 10, N: 2, Inc: 1})
	for _, m := range small(d) {
		for j := -2; j < 6; j++ {
			want := api.Vec{}
			if 0 <= j && j < m.Cols {
				want = api.Vec{D: d, Off: m.Off, N: m.Rows, Inc: 1}
				if m.Rows > 0 {
					want.Off += j * m.Ld
				}
				if !isRight(want) {
					t.Fatal("a column that isn't right:", want)
				}
			}
			vecIs(t, "column", Col(m, j), want)
		}
	}
}

func TestPart(t *testing.T) {
	d := counted(12)
	m := api.Mat{D: d, Off: 2, Rows: 2, Cols: 3, Ld: 4}
	matIs(t, "a part", Part(m, 1, 1, 1, 2), api.Mat{D: d, Off: 7, Rows: 1, Cols: 2, Ld: 4})
	matIs(t, "all of it", Part(m, 0, 0, 2, 3), m)
	matIs(t, "no columns", Part(m, 1, 1, 1, 0), api.Mat{D: d, Off: 2, Rows: 1, Ld: 4})
	matIs(t, "no rows", Part(m, 1, 1, 0, 2), api.Mat{D: d, Off: 2, Cols: 2, Ld: 4})
	matIs(t, "nothing at its end", Part(m, 2, 3, 0, 0), api.Mat{D: d, Off: 2, Ld: 4})
	matIs(t, "a row too many", Part(m, 1, 0, 2, 1), api.Mat{})
	matIs(t, "a column too many", Part(m, 0, 2, 1, 2), api.Mat{})
}

// part is what the document's words make of Part, at numbers whose sums stay ints.
func part(m api.Mat, i, j, rows, cols int) api.Mat {
	if min(i, j, rows, cols) < 0 || i+rows > m.Rows || j+cols > m.Cols {
		return api.Mat{}
	}
	p := api.Mat{D: m.D, Off: m.Off, Rows: rows, Cols: cols, Ld: m.Ld}
	if rows > 0 && cols > 0 {
		p.Off = m.Off + i + j*m.Ld
	}
	return p
}

func TestPartsOfAll(t *testing.T) {
	d := counted(12)
	for _, m := range small(d) {
		for i := -1; i < 5; i++ {
			for j := -1; j < 5; j++ {
				for rows := -1; rows < 5; rows++ {
					for cols := -1; cols < 5; cols++ {
						got := Part(m, i, j, rows, cols)
						matIs(t, "a part", got, part(m, i, j, rows, cols))
						if got.Ld > 0 && !isGood(got) {
							t.Error("a part that isn't right:", got)
						}
					}
				}
			}
		}
	}
}

func TestPartsThatGoBeyondAnInt(t *testing.T) {
	m := Dense(3, 3, 1, 2, 3, 4, 5, 6, 7, 8, 9)
	for _, i := range []int{1, 2, most - 1, most} {
		for _, n := range []int{most, most - 1, 1 << 62} {
			for _, p := range []api.Mat{Part(m, i, 0, n, 1), Part(m, 0, i, 1, n), Part(m, i, i, n, n), Part(m, n, 0, i, 1), Part(m, 0, n, 1, i)} {
				matIs(t, "no such rows and columns", p, api.Mat{})
			}
		}
		for _, p := range []api.Mat{Part(m, least, 0, i, 1), Part(m, 0, least, 1, i), Part(m, i, 0, least, 1), Part(m, 0, i, 1, least)} {
			matIs(t, "below 0", p, api.Mat{})
		}
	}
}

func TestMatricesOfManyRowsOrColumns(t *testing.T) {
	d := counted(3)
	wide := api.Mat{D: d, Off: 7, Cols: most, Ld: most}
	vecIs(t, "a column without rows", Col(wide, most-1), api.Vec{D: d, Off: 7, Inc: 1})
	vecIs(t, "no column", Col(wide, most), api.Vec{})
	vecIs(t, "no row", Row(wide, 0), api.Vec{})
	matIs(t, "a part without rows", Part(wide, 0, most-4, 0, 4), api.Mat{D: d, Off: 7, Cols: 4, Ld: most})
	matIs(t, "a column too many", Part(wide, 0, most-3, 0, 4), api.Mat{})
	high := api.Mat{D: d, Off: most, Rows: most, Ld: most}
	vecIs(t, "a row without columns", Row(high, most-1), api.Vec{D: d, Off: most, Inc: most})
	vecIs(t, "no row", Row(high, most), api.Vec{})
	vecIs(t, "no column", Col(high, 0), api.Vec{})
	matIs(t, "a part without columns", Part(high, most, 0, 0, 0), api.Mat{D: d, Off: most, Ld: most})
	if len(Numbers(wide)) != 0 || len(Numbers(high)) != 0 || Set(wide, 0, 0, 1) || Set(high, 0, 0, 1) || At(wide, 0, 0) != 0 || At(high, 0, 0) != 0 {
		t.Error("numbers of a matrix without any")
	}
}

func TestOfWhatIsNotRight(t *testing.T) {
	for _, m := range wrong() {
		d := slices.Clone(m.D)
		if At(m, 0, 0) != 0 || Set(m, 0, 0, 5) || !slices.Equal(m.D, d) {
			t.Errorf("At or Set of %v", m)
		}
		vecIs(t, "a row of what isn't right", Row(m, 0), api.Vec{})
		vecIs(t, "a column of what isn't right", Col(m, 0), api.Vec{})
		matIs(t, "a part of what isn't right", Part(m, 0, 0, 1, 1), api.Mat{})
		matIs(t, "an empty part of what isn't right", Part(m, 0, 0, 0, 0), api.Mat{})
		if len(Numbers(m)) != 0 {
			t.Errorf("numbers of %v", m)
		}
	}
}

func TestEveryCallEnds(t *testing.T) {
	for _, d := range [][]float64{nil, counted(4)} {
		for _, off := range edges() {
			for _, size := range edges() {
				for _, ld := range edges() {
					for _, m := range []api.Mat{{D: d, Off: off, Rows: size, Cols: size, Ld: ld}, {D: d, Off: off, Rows: size, Ld: ld}, {D: d, Off: off, Cols: size, Ld: ld}} {
						anyPlace(t, m)
					}
				}
			}
		}
	}
}

// anyPlace asks m for rows, columns and parts of any numbers.
func anyPlace(t *testing.T, m api.Mat) {
	t.Helper()
	for _, k := range edges() {
		At(m, k, 0)
		At(m, 0, k)
		Set(m, k, 1, 1)
		Set(m, 1, k, 1)
		Part(m, k, 0, k, 1)
		Part(m, 0, k, 1, k)
		if v := Row(m, k); v.Inc != 0 && !isRight(v) {
			t.Fatalf("Row(%v, %d): %v", m, k, v)
		}
		if v := Col(m, k); v.Inc != 0 && !isRight(v) {
			t.Fatalf("Col(%v, %d): %v", m, k, v)
		}
	}
	if Meet(m, m) && !isGood(m) {
		t.Fatalf("Meet of %v with itself", m)
	}
	if n := Numbers(m); len(n) != 0 && !isGood(m) {
		t.Fatalf("Numbers(%v): %v", m, n)
	}
}

func TestPartsAreInTheirMatrix(t *testing.T) {
	m := Dense(2, 2, 1, 2, 3, 4)
	Row(m, 1).D[Row(m, 1).Off] = 30
	Col(m, 1).D[Col(m, 1).Off] = 20
	Set(Part(m, 1, 1, 1, 1), 0, 0, 40)
	if !slices.Equal(m.D, []float64{1, 30, 20, 40}) {
		t.Error(m)
	}
}

// P3.3

func TestMeet(t *testing.T) {
	d := counted(12)
	one := func(off int) api.Mat { return api.Mat{D: d, Off: off, Rows: 1, Cols: 1, Ld: 1} }
	m := api.Mat{D: d, Off: 2, Rows: 2, Cols: 2, Ld: 4} // places 2, 3, 6, 7
	for off, want := range []bool{false, false, true, true, true, true, true, true, false, false, false, false} {
		if Meet(m, one(off)) != want || Meet(one(off), m) != want {
			t.Errorf("place %d: not %v", off, want)
		}
	}
	if !Meet(m, m) || !Meet(m, api.Mat{D: d, Rows: 1, Cols: 12, Ld: 1}) {
		t.Error("a matrix with itself, and with all of its list")
	}
	// The numbers lie between one another, and none is of both; the spans have places in common.
	if !Meet(api.Mat{D: d, Rows: 1, Cols: 6, Ld: 2}, api.Mat{D: d, Off: 1, Rows: 1, Cols: 6, Ld: 2}) {
		t.Error("every other place")
	}
}

// touch tells by going through the spans' places whether they have one in common.
func touch(a, b api.Mat) bool {
	if a.Rows == 0 || a.Cols == 0 || b.Rows == 0 || b.Cols == 0 {
		return false
	}
	places := map[int]bool{}
	for k := a.Off; k <= a.Off+(a.Cols-1)*a.Ld+a.Rows-1; k++ {
		places[k] = true
	}
	for k := b.Off; k <= b.Off+(b.Cols-1)*b.Ld+b.Rows-1; k++ {
		if places[k] {
			return true
		}
	}
	return false
}

func TestMeetOfAll(t *testing.T) {
	all := small(counted(12))
	for _, a := range all {
		for _, b := range all {
			b.Off += 3
			if isGood(b) && Meet(a, b) != touch(a, b) {
				t.Fatalf("Meet(%v, %v): not %v", a, b, touch(a, b))
			}
		}
	}
}

func TestMeetOfLists(t *testing.T) {
	d := counted(12)
	m := api.Mat{D: d, Rows: 2, Cols: 2, Ld: 2}
	other := func(l []float64) api.Mat { return api.Mat{D: l, Rows: 1, Cols: 1, Ld: 1} }
	if !Meet(m, other(d[:1])) || !Meet(other(d[:1]), m) {
		t.Error("lists of two lengths that begin at one place")
	}
	for _, l := range [][]float64{slices.Clone(d), d[1:], d[:0], nil} {
		if Meet(m, other(l)) || Meet(other(l), m) {
			t.Errorf("lists that aren't one: %v", l)
		}
	}
	empty := api.Mat{Ld: 1}
	within := api.Mat{D: d, Off: 1, Rows: 2, Ld: 2}
	if Meet(m, empty) || Meet(empty, m) || Meet(empty, empty) || Meet(m, within) || Meet(within, m) || Meet(within, within) {
		t.Error("matrices without numbers have no span")
	}
}

func TestMeetOfWhatIsNotRight(t *testing.T) {
	for _, m := range wrong() {
		whole := api.Mat{D: m.D, Rows: 1, Cols: len(m.D), Ld: 1}
		if Meet(m, m) || Meet(m, whole) || Meet(whole, m) {
			t.Errorf("Meet of %v", m)
		}
	}
}

func TestNumbers(t *testing.T) {
	d := counted(12)
	if l := Numbers(api.Mat{D: d, Off: 1, Rows: 2, Cols: 3, Ld: 3}); !slices.Equal(l, []float64{2, 3, 5, 6, 8, 9}) {
		t.Error(l)
	}
	for _, m := range small(d) {
		var want []float64
		for j := range m.Cols {
			for i := range m.Rows {
				want = append(want, d[m.Off+i+j*m.Ld])
			}
		}
		if got := Numbers(m); !slices.Equal(got, want) {
			t.Errorf("Numbers(%v): %v, not %v", m, got, want)
		}
	}
}

func TestNumbersAreNew(t *testing.T) {
	m := Dense(2, 2, 1, 2, 3, 4)
	l := Numbers(m)
	l[0], m.D[1] = 50, 60
	if m.D[0] != 1 || l[1] != 3 {
		t.Error(m, l)
	}
	column := Dense(4, 1, 1, 2, 3, 4)
	Numbers(column)[0] = 50
	if column.D[0] != 1 {
		t.Error(column)
	}
}
