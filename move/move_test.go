package move_test

import (
	"math"
	"slices"
	"testing"

	"straightedge/api"
	"straightedge/move"
	"straightedge/view"
)

const (
	most  = math.MaxInt
	least = math.MinInt
)

var (
	inf    = math.Inf(1)
	nan    = math.NaN()
	nought = math.Copysign(0, -1)
)

// edges are numbers at which descriptors turn from right to wrong, and numbers whose sums and products go beyond an int.
func edges() []int {
	return []int{least, -1, 0, 1, 2, 3, 4, 1 << 31, 1 << 62, most - 1, most}
}

// counted is the list 1, 2, .., n, with room of numbers behind it that nobody may read or write.
func counted(n int) []float64 {
	l := make([]float64, n, n+9)
	for i := range l[:cap(l)] {
		l[:cap(l)][i] = -7
		if i < n {
			l[i] = float64(i + 1)
		}
	}
	return l
}

// same tells whether the lists have the same bits, any NaN for a NaN.
func same(a, b []float64) bool {
	return slices.EqualFunc(a, b, func(x, y float64) bool {
		return math.Float64bits(x) == math.Float64bits(y) || x != x && y != y
	})
}

// is looks whether a list of counted, changed or not, is what is wanted, and unchanged behind its length.
func is(t *testing.T, what string, got, want []float64) {
	t.Helper()
	if !same(got, want) {
		t.Errorf("%s: %v, not %v", what, got, want)
	}
	for _, x := range got[len(got):cap(got)] {
		if x != -7 {
			t.Errorf("%s: written behind the list: %v", what, x)
		}
	}
}

func errorIs(t *testing.T, what string, got, want api.Errno) {
	t.Helper()
	if got != want {
		t.Errorf("%s: error %d, not %d", what, int(got), int(want))
	}
}

// spots are the places of v's numbers in its list; v is right.
func spots(v api.Vec) []int {
	var l []int
	for k, p := 0, v.Off; k < v.N; k, p = k+1, p+v.Inc {
		l = append(l, p)
	}
	return l
}

// cells are the places of m's numbers in its list, column by column; m is right.
func cells(m api.Mat) []int {
	var l []int
	for j := range m.Cols {
		for i := range m.Rows {
			l = append(l, m.Off+i+j*m.Ld)
		}
	}
	return l
}

func oneList(a, b []float64) bool { return len(a) > 0 && len(b) > 0 && &a[0] == &b[0] }

// pairs is what the document's words make of Pair.
func pairs(a, b api.Vec) api.Errno {
	switch {
	case !view.Right(a) || !view.Right(b):
		return api.ErrArg
	case a.N != b.N:
		return api.ErrSize
	case !oneList(a.D, b.D):
		return api.OK
	}
	for _, p := range spots(a) {
		if slices.Contains(spots(b), p) {
			return api.ErrApart
		}
	}
	return api.OK
}

// small are vectors within d, right ones and some that aren't.
func small(d []float64) []api.Vec {
	var all []api.Vec
	for off := -1; off < 6; off++ {
		for n := -1; n < 5; n++ {
			for inc := range 5 {
				all = append(all, api.Vec{D: d, Off: off, N: n, Inc: inc})
			}
		}
	}
	return all
}

// wrongVecs are vectors that aren't right, each by a thing of its own.
func wrongVecs() []api.Vec {
	d := counted(6)
	return []api.Vec{
		{},
		{D: d},
		{D: d, N: 2},
		{D: d, N: 2, Inc: -1},
		{D: d, N: -1, Inc: 1},
		{D: d, N: 2, Off: -1, Inc: 1},
		{D: d, Off: -1, Inc: 1},
		{D: d, N: 7, Inc: 1},
		{D: d, N: 3, Inc: 3},
		{D: d, N: 5, Inc: 1 << 62},
		{D: d, N: 2, Off: most, Inc: most},
		{D: d, N: most, Inc: 1},
		{N: 1, Inc: 1},
	}
}

// wrongMats are matrices that aren't right, each by a thing of its own.
func wrongMats() []api.Mat {
	d := counted(9)
	return []api.Mat{
		{},
		{D: d},
		{D: d, Rows: 2, Cols: 2},
		{D: d, Off: -1, Rows: 2, Cols: 2, Ld: 2},
		{D: d, Rows: -1, Cols: 2, Ld: 2},
		{D: d, Rows: 2, Cols: -1, Ld: 2},
		{D: d, Rows: 2, Cols: 2, Ld: 1},
		{D: d, Rows: 2, Ld: 1},
		{D: d, Rows: 2, Cols: 5, Ld: 2},
		{D: d, Off: 6, Rows: 2, Cols: 2, Ld: 2},
		{D: d, Rows: 2, Cols: 5, Ld: 1 << 62},
		{D: d, Rows: 2, Cols: most, Ld: 2},
		{D: d, Rows: most, Cols: 1, Ld: most},
		{D: d, Off: most, Rows: most, Cols: most, Ld: most},
		{Rows: 2, Cols: 2, Ld: 2},
	}
}

// P4.1

func TestCopy(t *testing.T) {
	d, from := counted(9), []float64{10, 20, 30, 40, 50, 60, 70}
	errorIs(t, "Copy", move.Copy(api.Vec{D: d, Off: 1, N: 3, Inc: 3}, api.Vec{D: from, Off: 2, N: 3, Inc: 2}), api.OK)
	is(t, "copied", d, []float64{1, 30, 3, 4, 50, 6, 7, 70, 9})
	if !slices.Equal(from, []float64{10, 20, 30, 40, 50, 60, 70}) {
		t.Error("what is copied from is changed:", from)
	}
}

func TestSwap(t *testing.T) {
	a, b := counted(9), counted(7)
	errorIs(t, "Swap", move.Swap(api.Vec{D: a, Off: 1, N: 3, Inc: 3}, api.Vec{D: b, Off: 2, N: 3, Inc: 2}), api.OK)
	is(t, "the one", a, []float64{1, 3, 3, 4, 5, 6, 7, 7, 9})
	is(t, "the other", b, []float64{1, 2, 2, 4, 5, 6, 8})
}

func TestVectorsThatMeet(t *testing.T) {
	d := counted(12)
	v := func(off, n, inc int) api.Vec { return api.Vec{D: d, Off: off, N: n, Inc: inc} }
	for _, x := range []struct {
		what string
		a, b api.Vec
		want api.Errno
	}{
		{"side by side", v(0, 6, 1), v(6, 6, 1), api.OK},
		{"interleaved", v(0, 6, 2), v(1, 6, 2), api.OK},
		{"three that interleave", v(0, 4, 3), v(2, 4, 3), api.OK},
		{"the one within the other's gaps", v(0, 2, 11), v(5, 2, 1), api.OK},
		{"interleaved, Inc that differ", v(0, 3, 4), v(1, 3, 2), api.OK},
		{"in one place, in the middle", v(1, 3, 4), v(3, 3, 2), api.ErrApart},
		{"in one place, the first", v(4, 3, 3), v(4, 3, 2), api.ErrApart},
		{"in one place, the last", v(2, 4, 3), v(8, 4, 1), api.ErrApart},
		{"the last and the first", v(0, 4, 2), v(6, 4, 1), api.ErrApart},
		{"behind the last one", v(0, 4, 2), v(8, 4, 1), api.OK},
		{"the same", v(2, 5, 2), v(2, 5, 2), api.ErrApart},
		{"one on", v(0, 5, 1), v(1, 5, 1), api.ErrApart},
		{"of one number", v(3, 1, most), v(3, 1, 1), api.ErrApart},
		{"of one number each", v(3, 1, most), v(4, 1, most), api.OK},
		{"without numbers", v(3, 0, 1), v(3, 0, 1), api.OK},
		{"without numbers, far off", v(most, 0, most), v(most, 0, most), api.OK},
	} {
		errorIs(t, x.what, move.Pair(x.a, x.b), x.want)
		errorIs(t, x.what+", turned about", move.Pair(x.b, x.a), x.want)
	}
	is(t, "Pair", d, counted(12))
}

func TestVectorsOfOneListAndOfMore(t *testing.T) {
	d := counted(8)
	v := api.Vec{D: d, Off: 1, N: 3, Inc: 1}
	errorIs(t, "lists of two lengths that begin at one place", move.Pair(v, api.Vec{D: d[:4], Off: 1, N: 3, Inc: 1}), api.ErrApart)
	errorIs(t, "the same places of two lists", move.Pair(v, api.Vec{D: counted(8), Off: 1, N: 3, Inc: 1}), api.OK)
	none := api.Vec{Off: 1, Inc: 1}
	errorIs(t, "lists without a first number", move.Pair(none, api.Vec{D: counted(0), Off: 1, Inc: 1}), api.OK)
	errorIs(t, "one without numbers, one with", move.Pair(none, v), api.ErrSize)
}

func TestPairsOfAll(t *testing.T) {
	d, other := counted(8), counted(7)
	for _, a := range small(d) {
		for _, b := range append(small(d), small(other)...) {
			want := pairs(a, b)
			if move.Pair(a, b) != want || move.Pair(b, a) != want {
				t.Fatalf("Pair(%v, %v): not %d", a, b, int(want))
			}
		}
	}
	is(t, "Pair", d, counted(8))
}

// changed are the lists of a and b as Copy (a to be b's) and Swap ought to leave them.
func changed(a, b api.Vec, swaps bool) (ofA, ofB []float64) {
	ofA, ofB = slices.Clone(a.D), slices.Clone(b.D)
	if pairs(a, b) != api.OK {
		return ofA, ofB
	}
	if oneList(a.D, b.D) {
		ofB = ofA
	}
	for i, p := range spots(a) {
		q := spots(b)[i]
		ofA[p] = b.D[q]
		if swaps {
			ofB[q] = a.D[p]
		}
	}
	return ofA, ofB
}

func TestCopyAndSwapOfAll(t *testing.T) {
	for _, x := range small(nil) {
		for _, y := range small(nil) {
			for _, one := range []bool{true, false} {
				for _, swaps := range []bool{true, false} {
					a, b := x, y
					a.D, b.D = counted(8), []float64{10, 20, 30, 40, 50, 60, 70}
					if one {
						b.D = a.D
					}
					e := pairs(a, b)
					ofA, ofB := changed(a, b, swaps)
					if swaps && move.Swap(a, b) != e || !swaps && move.Copy(a, b) != e {
						t.Fatalf("%v, %v: not error %d", a, b, int(e))
					}
					if !same(a.D, ofA) || !same(b.D, ofB) {
						t.Fatalf("%v, %v: not %v, %v", a, b, ofA, ofB)
					}
				}
			}
		}
	}
}

func TestCopyAndSwapOfAnyNumbers(t *testing.T) {
	odd := []float64{nan, inf, -inf, nought, 0, math.SmallestNonzeroFloat64, -math.MaxFloat64}
	d, from := counted(7), slices.Clone(odd)
	errorIs(t, "Copy", move.Copy(api.Vec{D: d, N: 7, Inc: 1}, api.Vec{D: from, N: 7, Inc: 1}), api.OK)
	is(t, "copied", d, odd)
	d = counted(7)
	errorIs(t, "Swap", move.Swap(api.Vec{D: from, N: 7, Inc: 1}, api.Vec{D: d, N: 7, Inc: 1}), api.OK)
	is(t, "the one", d, odd)
	if !same(from, counted(7)) {
		t.Error("the other:", from)
	}
}

func TestOfVectorsThatAreNotRight(t *testing.T) {
	d := counted(6)
	right := []api.Vec{{D: d, N: 2, Inc: 1}, {D: d, N: 3, Inc: 2}, {D: d, Inc: 1}, {Inc: 1}}
	for _, v := range wrongVecs() {
		was := slices.Clone(v.D)
		for _, w := range append(right, v) {
			for _, e := range []api.Errno{move.Pair(v, w), move.Pair(w, v), move.Copy(v, w), move.Copy(w, v), move.Swap(v, w), move.Swap(w, v)} {
				errorIs(t, "one that isn't right", e, api.ErrArg)
			}
		}
		is(t, "a list of one that isn't right", v.D, was)
	}
	is(t, "the other list", d, counted(6))
}

func TestWhichErrorOfVectorsComesFirst(t *testing.T) {
	d := counted(6)
	v := func(off, n, inc int) api.Vec { return api.Vec{D: d, Off: off, N: n, Inc: inc} }
	for _, f := range []func(a, b api.Vec) api.Errno{move.Pair, move.Copy, move.Swap} {
		errorIs(t, "not right, N that differ, and they would meet", f(v(0, 2, 1), v(0, 7, 1)), api.ErrArg)
		errorIs(t, "the same, turned about", f(v(0, 7, 1), v(0, 2, 1)), api.ErrArg)
		errorIs(t, "N that differ, and they meet", f(v(0, 2, 1), v(0, 3, 1)), api.ErrSize)
		errorIs(t, "none against some", f(v(0, 0, 1), v(0, 3, 1)), api.ErrSize)
		errorIs(t, "they meet", f(v(0, 3, 1), v(2, 3, 1)), api.ErrApart)
	}
	is(t, "beside errors", d, counted(6))
}

// P4.2

func TestRows(t *testing.T) {
	m := view.Dense(2, 2, 1, 2, 3, 4)
	errorIs(t, "Rows", move.Rows(m, 0, 1), api.OK)
	if !slices.Equal(m.D, []float64{3, 1, 4, 2}) {
		t.Error(m)
	}
	d := counted(14)
	m = api.Mat{D: d, Off: 2, Rows: 3, Cols: 3, Ld: 4}
	errorIs(t, "rows within a list", move.Rows(m, 2, 0), api.OK)
	is(t, "rows within a list", d, []float64{1, 2, 5, 4, 3, 6, 9, 8, 7, 10, 13, 12, 11, 14})
}

// mats are right matrices of up to 3 rows and columns within d; some have no numbers.
func mats(d []float64) []api.Mat {
	var all []api.Mat
	for off := range 3 {
		for rows := range 4 {
			for cols := range 4 {
				for ld := 1; ld < 5; ld++ {
					if m := (api.Mat{D: d, Off: off, Rows: rows, Cols: cols, Ld: ld}); view.Good(m) {
						all = append(all, m)
					}
				}
			}
		}
	}
	return all
}

// exchange lets rows i and k of m, whose list is as long as d, change places in d.
func exchange(m api.Mat, d []float64, i, k int) {
	for j := range m.Cols {
		p, q := m.Off+i+j*m.Ld, m.Off+k+j*m.Ld
		d[p], d[q] = d[q], d[p]
	}
}

func TestRowsOfAll(t *testing.T) {
	for _, m := range mats(counted(14)) {
		for i := -1; i < 5; i++ {
			for k := -1; k < 5; k++ {
				m.D = counted(14)
				want, e := counted(14), api.ErrArg
				if min(i, k) >= 0 && max(i, k) < m.Rows {
					e = api.OK
					exchange(m, want, i, k)
				}
				if got := move.Rows(m, i, k); got != e || !same(m.D, want) {
					t.Fatalf("Rows(%v, %d, %d): %d, not %v", m, i, k, int(got), want)
				}
			}
		}
	}
}

func TestARowWithItself(t *testing.T) {
	d := counted(9)
	m := api.Mat{D: d, Rows: 3, Cols: 3, Ld: 3}
	for i := range 3 {
		errorIs(t, "a row with itself", move.Rows(m, i, i), api.OK)
	}
	for _, i := range []int{least, -1, 3, most} {
		errorIs(t, "no row with itself", move.Rows(m, i, i), api.ErrArg)
	}
	is(t, "rows with themselves", d, counted(9))
	for _, m := range wrongMats() {
		errorIs(t, "of what isn't right", move.Rows(m, 0, 0), api.ErrArg)
	}
}

func TestRowsThatAreNotThere(t *testing.T) {
	d := counted(9)
	m := api.Mat{D: d, Rows: 3, Cols: 3, Ld: 3}
	for _, i := range []int{least, -3, -1, 3, 4, 1 << 62, most} {
		for _, k := range []int{0, 1, 2, i} {
			errorIs(t, "no row i", move.Rows(m, i, k), api.ErrArg)
			errorIs(t, "no row k", move.Rows(m, k, i), api.ErrArg)
		}
	}
	is(t, "rows that aren't there", d, counted(9))
	for _, m := range wrongMats() {
		was := slices.Clone(m.D)
		errorIs(t, "of what isn't right", move.Rows(m, 0, 1), api.ErrArg)
		is(t, "of what isn't right", m.D, was)
	}
}

func TestRowsOfMatricesWithoutNumbers(t *testing.T) {
	high := api.Mat{D: counted(3), Off: most, Rows: most, Ld: most}
	errorIs(t, "rows without columns", move.Rows(high, 0, most-1), api.OK)
	errorIs(t, "a row without columns, with itself", move.Rows(high, 1, 1), api.OK)
	errorIs(t, "no row", move.Rows(high, 0, most), api.ErrArg)
	wide := api.Mat{D: counted(3), Off: most, Cols: most, Ld: most}
	errorIs(t, "columns without rows", move.Rows(wide, 0, 0), api.ErrArg)
	is(t, "without numbers", high.D, counted(3))
}

func TestTake(t *testing.T) {
	for _, x := range []struct {
		order []int
		rows  []float64 // the one column, of rows 0 to 3
	}{
		{nil, []float64{1, 2, 3, 4}},
		{[]int{}, []float64{1, 2, 3, 4}},
		{[]int{0}, []float64{1, 2, 3, 4}},
		{[]int{3}, []float64{4, 2, 3, 1}},
		{[]int{0, 1, 2, 3}, []float64{1, 2, 3, 4}},
		{[]int{1, 2, 3}, []float64{2, 3, 4, 1}}, // each place changes with a later one
		{[]int{1, 2, 3, 3}, []float64{2, 3, 4, 1}},
		{[]int{3, 3, 3, 3}, []float64{4, 1, 2, 3}},
		{[]int{2, 3, 3, 3}, []float64{3, 4, 2, 1}},
		{[]int{0, 1, 3}, []float64{1, 2, 4, 3}},
	} {
		m := view.Dense(4, 1, 1, 2, 3, 4)
		order := slices.Clone(x.order)
		if e := move.Take(m, x.order...); e != api.OK || !slices.Equal(m.D, x.rows) {
			t.Errorf("Take %v: %d, %v, not %v", x.order, int(e), m.D, x.rows)
		}
		if !slices.Equal(order, x.order) {
			t.Error("the order is changed:", x.order)
		}
	}
}

// orders are all lists of up to 4 numbers from -1 to 4.
func orders() [][]int {
	all := [][]int{nil}
	for at := 0; at < len(all); at++ {
		for k := -1; k < 5 && len(all[at]) < 4; k++ {
			all = append(all, append(slices.Clone(all[at]), k))
		}
	}
	return all
}

// takes is what the document's words make of Take.
func takes(m api.Mat, order []int) api.Errno {
	if len(order) > m.Rows {
		return api.ErrSize
	}
	for i, k := range order {
		if k < i || k > m.Rows-1 {
			return api.ErrArg
		}
	}
	return api.OK
}

func TestTakeOfAll(t *testing.T) {
	for _, m := range mats(counted(14)) {
		for _, order := range orders() {
			m.D = counted(14)
			want, e := counted(14), takes(m, order)
			for i, k := range order {
				if e == api.OK {
					exchange(m, want, i, k)
				}
			}
			if got := move.Take(m, order...); got != e || !same(m.D, want) {
				t.Fatalf("Take(%v, %v): %d, not %d and %v", m, order, int(got), int(e), want)
			}
		}
	}
}

func TestTakeOfAnOrderThatIsNone(t *testing.T) {
	d := counted(9)
	m := api.Mat{D: d, Rows: 3, Cols: 3, Ld: 3}
	for _, x := range []struct {
		order []int
		want  api.Errno
	}{
		{[]int{2, 0}, api.ErrArg}, // below its own place, behind a right one
		{[]int{2, 2, 1}, api.ErrArg},
		{[]int{1, 2, 3}, api.ErrArg},
		{[]int{3}, api.ErrArg},
		{[]int{-1}, api.ErrArg},
		{[]int{1, least}, api.ErrArg},
		{[]int{1, most}, api.ErrArg},
		{[]int{0, 1, 2, 3}, api.ErrSize},
		{[]int{-1, 1, 2, 2}, api.ErrSize}, // too long comes ahead of what isn't a place
		{make([]int, 1000), api.ErrSize},
	} {
		errorIs(t, "an order that is none", move.Take(m, x.order...), x.want)
	}
	is(t, "orders that are none", d, counted(9))
	for _, m := range wrongMats() {
		was := slices.Clone(m.D)
		for _, order := range [][]int{nil, {0}, {1}, {-1}, {0, 1, 2, 3, 4, 5, 6, 7, 8, 9}} {
			errorIs(t, "of what isn't right", move.Take(m, order...), api.ErrArg)
		}
		is(t, "of what isn't right", m.D, was)
	}
}

func TestTakeOfManyRows(t *testing.T) {
	d := counted(100)
	m := api.Mat{D: d, Rows: 100, Cols: 1, Ld: 100}
	var order []int
	for i := range 100 {
		order = append(order, max(i, 99-i))
	}
	errorIs(t, "100 rows", move.Take(m, order...), api.OK)
	want := counted(100)
	slices.Reverse(want)
	is(t, "100 rows, turned about", d, want)
	high := api.Mat{Rows: most, Ld: most}
	errorIs(t, "rows without columns", move.Take(high, most-1, 1, most-1), api.OK)
	errorIs(t, "no such row", move.Take(high, most), api.ErrArg)
	wide := api.Mat{Cols: most, Ld: 1}
	errorIs(t, "columns without rows", move.Take(wide), api.OK)
	errorIs(t, "an order of none", move.Take(wide, 0), api.ErrSize)
}

func TestRowsOfAnyNumbers(t *testing.T) {
	m := view.Dense(2, 3, nan, inf, nought, -inf, nan, 0)
	errorIs(t, "Rows", move.Rows(m, 1, 0), api.OK)
	if !same(m.D, []float64{-inf, nan, nan, inf, 0, nought}) {
		t.Error(m)
	}
	errorIs(t, "Take", move.Take(m, 1, 1), api.OK)
	if !same(m.D, []float64{nan, -inf, inf, nan, nought, 0}) {
		t.Error(m)
	}
}

func TestFinite(t *testing.T) {
	for _, m := range []api.Mat{
		view.Dense(2, 2, 1, 2, 3, 4),
		view.Dense(2, 2, math.MaxFloat64, -math.MaxFloat64, nought, math.SmallestNonzeroFloat64),
		view.Dense(3, 0), view.Dense(0, 3), {Ld: 1}, {Rows: most, Ld: most}, {Cols: most, Ld: 1},
		{D: counted(100), Rows: 100, Cols: 1, Ld: 100},
	} {
		if !move.Finite(m) {
			t.Errorf("%v isn't finite", m)
		}
	}
	for _, m := range wrongMats() {
		if move.Finite(m) {
			t.Errorf("%v, which isn't right, is finite", m)
		}
	}
}

func TestFiniteNumberByNumber(t *testing.T) {
	for _, m := range mats(counted(14)) {
		for p := range 14 {
			for _, x := range []float64{nan, inf, -inf} {
				m.D = counted(14)
				m.D[p] = x
				// What stands between the columns, ahead and behind is nobody's business.
				if want := !slices.Contains(cells(m), p); move.Finite(m) != want {
					t.Fatalf("%v: not %v", m, want)
				}
			}
		}
	}
	d := counted(100)
	d[99] = nan
	if move.Finite(api.Mat{D: d, Rows: 100, Cols: 1, Ld: 100}) || !move.Finite(api.Mat{D: d, Rows: 1, Cols: 99, Ld: 1}) {
		t.Error("100 numbers")
	}
}

// P4.3

// cloneIs looks whether c is as Dense makes it, with the numbers of m, and shares none.
func cloneIs(t *testing.T, m, c api.Mat, e api.Errno) {
	t.Helper()
	errorIs(t, "Clone", e, api.OK)
	want := make([]float64, m.Rows*m.Cols)
	for k, p := range cells(m) {
		want[k] = m.D[p]
	}
	if c.Off != 0 || c.Rows != m.Rows || c.Cols != m.Cols || c.Ld != max(1, m.Rows) || !same(c.D, want) {
		t.Fatalf("Clone(%v): %v", m, c)
	}
	if view.Meet(m, c) {
		t.Fatalf("Clone(%v) isn't new", m)
	}
}

func TestClone(t *testing.T) {
	for _, m := range mats(counted(14)) {
		c, e := move.Clone(m)
		cloneIs(t, m, c, e)
		is(t, "what was cloned", m.D, counted(14))
	}
	m := view.Dense(2, 3, nan, inf, nought, -inf, 0, math.SmallestNonzeroFloat64)
	c, e := move.Clone(m)
	cloneIs(t, m, c, e)
}

func TestClonesAreNew(t *testing.T) {
	m := view.Dense(2, 2, 1, 2, 3, 4)
	c, _ := move.Clone(m)
	c.D[0], m.D[1] = 50, 60
	if !slices.Equal(m.D, []float64{1, 60, 2, 4}) || !slices.Equal(c.D, []float64{50, 3, 2, 4}) {
		t.Error(m, c)
	}
}

func TestCloneOfManyRowsOrColumns(t *testing.T) {
	d := counted(66 * 66)
	for _, m := range []api.Mat{{D: d, Off: 1, Rows: 64, Cols: 64, Ld: 66}, {D: d, Rows: 64, Ld: 64}, {D: d, Cols: 64, Ld: 1}, {D: d, Rows: 1, Cols: 64, Ld: 7}, {D: d, Rows: 64, Cols: 1, Ld: most}} {
		c, e := move.Clone(m)
		cloneIs(t, m, c, e)
	}
	for _, m := range []api.Mat{
		{D: d, Rows: 65, Cols: 1, Ld: 65}, {D: d, Rows: 1, Cols: 65, Ld: 1}, {D: d, Rows: 65, Cols: 65, Ld: 66},
		{D: d, Rows: 64, Cols: 65, Ld: 64}, {D: d, Rows: 65, Cols: 64, Ld: 65},
		{Rows: 65, Ld: 65}, {Cols: 65, Ld: 1}, {Rows: most, Ld: most}, {Cols: most, Ld: 1},
	} {
		c, e := move.Clone(m)
		errorIs(t, "more than 64", e, api.ErrSize)
		nothing(t, c)
	}
	is(t, "what was cloned", d, counted(66*66))
}

func nothing(t *testing.T, c api.Mat) {
	t.Helper()
	if len(c.D) != 0 || c.Off != 0 || c.Rows != 0 || c.Cols != 0 || c.Ld != 0 {
		t.Errorf("beside an error: %v", c)
	}
}

func TestCloneOfWhatIsNotRight(t *testing.T) {
	great := []api.Mat{{Rows: 65, Cols: 65, Ld: 65}, {Rows: 65, Ld: 64}, {Rows: -1, Cols: 65, Ld: 1}, {Off: -1, Cols: 65, Ld: 1}}
	for _, m := range append(wrongMats(), great...) {
		c, e := move.Clone(m)
		errorIs(t, "of what isn't right", e, api.ErrArg)
		nothing(t, c)
	}
}

func TestInto(t *testing.T) {
	d, from := counted(12), view.Dense(2, 3, 10, 20, 30, 40, 50, 60)
	to := api.Mat{D: d, Off: 1, Rows: 2, Cols: 3, Ld: 4}
	errorIs(t, "Into", move.Into(to, from), api.OK)
	is(t, "Into", d, []float64{1, 10, 40, 4, 5, 20, 50, 8, 9, 30, 60, 12})
	if !slices.Equal(from.D, []float64{10, 40, 20, 50, 30, 60}) {
		t.Error("what it is from is changed:", from)
	}
	errorIs(t, "back", move.Into(from, api.Mat{D: counted(12), Off: 3, Rows: 2, Cols: 3, Ld: 3}), api.OK)
	if !slices.Equal(from.D, []float64{4, 5, 7, 8, 10, 11}) {
		t.Error("back:", from)
	}
}

// into is what the document's words make of Into's errors, of right matrices.
func into(to, from api.Mat) api.Errno {
	switch {
	case to.Rows != from.Rows || to.Cols != from.Cols:
		return api.ErrSize
	case view.Meet(to, from):
		return api.ErrApart
	}
	return api.OK
}

func TestIntoOfAll(t *testing.T) {
	for _, x := range mats(counted(14)) {
		for _, y := range mats(counted(14)) {
			for _, shift := range []int{-1, 0, 3, 5, 9} {
				to, from := x, y
				to.D, from.D = counted(24), []float64{10, 20, 30, 40, 50, 60, 70, 80, 90, 100, 110, 120, 130, 140}
				if shift >= 0 {
					from.D = to.D
					from.Off += shift
				}
				want, e, was := counted(24), into(to, from), slices.Clone(from.D)
				for k, p := range cells(to) {
					if e == api.OK {
						want[p] = was[cells(from)[k]]
					}
				}
				if got := move.Into(to, from); got != e || !same(to.D, want) || shift < 0 && !same(from.D, was) {
					t.Fatalf("Into(%v, %v): %d, not %d and %v", to, from, int(got), int(e), want)
				}
			}
		}
	}
}

func TestIntoWithinOneList(t *testing.T) {
	d := counted(16)
	part := func(off, ld int) api.Mat { return api.Mat{D: d, Off: off, Rows: 2, Cols: 2, Ld: ld} }
	for _, x := range []struct {
		what     string
		to, from api.Mat
	}{
		{"the same", part(3, 4), part(3, 4)},
		{"rows beneath: the spans overlap, and no number is of both", part(0, 4), part(2, 4)},
		{"the last place and the first", part(0, 4), part(5, 4)},
		{"the one within the other", part(0, 12), part(4, 2)},
		{"lists of two lengths", part(0, 4), api.Mat{D: d[:6], Rows: 2, Cols: 2, Ld: 4}},
	} {
		errorIs(t, x.what, move.Into(x.to, x.from), api.ErrApart)
		errorIs(t, x.what+", turned about", move.Into(x.from, x.to), api.ErrApart)
	}
	is(t, "matrices that meet", d, counted(16))
	errorIs(t, "side by side", move.Into(part(0, 4), part(6, 4)), api.OK)
	is(t, "side by side", d, []float64{7, 8, 3, 4, 11, 12, 7, 8, 9, 10, 11, 12, 13, 14, 15, 16})
}

func TestIntoOfManyRowsOrColumns(t *testing.T) {
	for _, size := range [][2]int{{64, 64}, {100, 70}, {1, 4000}, {4000, 1}} {
		rows, cols := size[0], size[1]
		from := api.Mat{D: counted(rows * cols), Rows: rows, Cols: cols, Ld: rows}
		to := api.Mat{D: make([]float64, (rows+1)*cols), Rows: rows, Cols: cols, Ld: rows + 1}
		errorIs(t, "many", move.Into(to, from), api.OK)
		for k, p := range cells(to) {
			if to.D[p] != float64(k+1) {
				t.Fatalf("place %d: %v", p, to.D[p])
			}
		}
		for j := range cols {
			if to.D[j*to.Ld+rows] != 0 {
				t.Fatal("written between the columns")
			}
		}
	}
}

func TestIntoOfMatricesWithoutNumbers(t *testing.T) {
	d := counted(3)
	for _, m := range []api.Mat{{D: d, Ld: 1}, {D: d, Rows: 2, Ld: 2}, {D: d, Cols: 2, Ld: 1}, {D: d, Off: most, Rows: most, Ld: most}, {D: d, Off: most, Cols: most, Ld: most}, {Cols: most, Ld: 1}} {
		errorIs(t, "into itself", move.Into(m, m), api.OK)
	}
	errorIs(t, "without rows, columns that differ", move.Into(api.Mat{Cols: 2, Ld: 1}, api.Mat{Cols: 3, Ld: 1}), api.ErrSize)
	errorIs(t, "without columns, rows that differ", move.Into(api.Mat{Rows: 2, Ld: 2}, api.Mat{Rows: 1, Ld: 2}), api.ErrSize)
	errorIs(t, "without numbers, turned about", move.Into(api.Mat{Rows: 2, Ld: 2}, api.Mat{Cols: 2, Ld: 2}), api.ErrSize)
	is(t, "without numbers", d, counted(3))
}

func TestIntoOfAnyNumbers(t *testing.T) {
	odd := []float64{nan, inf, -inf, nought, 0, -math.SmallestNonzeroFloat64}
	to := api.Mat{D: counted(6), Rows: 2, Cols: 3, Ld: 2}
	errorIs(t, "Into", move.Into(to, api.Mat{D: odd, Rows: 2, Cols: 3, Ld: 2}), api.OK)
	is(t, "Into", to.D, odd)
}

func TestWhichErrorOfMatricesComesFirst(t *testing.T) {
	d := counted(9)
	m := api.Mat{D: d, Rows: 2, Cols: 2, Ld: 2}
	for _, w := range wrongMats() {
		was := slices.Clone(w.D)
		for _, right := range []api.Mat{m, {D: d, Rows: 1, Cols: 3, Ld: 1}, {Ld: 1}, w} {
			errorIs(t, "to one that isn't right", move.Into(w, right), api.ErrArg)
			errorIs(t, "from one that isn't right", move.Into(right, w), api.ErrArg)
		}
		is(t, "of what isn't right", w.D, was)
	}
	errorIs(t, "not right, and of another size within the list", move.Into(m, api.Mat{D: d, Rows: 2, Cols: 5, Ld: 2}), api.ErrArg)
	errorIs(t, "Rows that differ, and they meet", move.Into(m, view.Part(m, 0, 0, 1, 2)), api.ErrSize)
	errorIs(t, "Cols that differ, and they meet", move.Into(m, view.Part(m, 0, 0, 2, 1)), api.ErrSize)
	errorIs(t, "as many numbers, of other sizes", move.Into(m, view.Dense(1, 4)), api.ErrSize)
	errorIs(t, "turned about", move.Into(view.Dense(2, 3), view.Dense(3, 2)), api.ErrSize)
	errorIs(t, "they meet", move.Into(m, m), api.ErrApart)
	is(t, "beside errors", d, counted(9))
}

// P1

func TestEveryCallEnds(t *testing.T) {
	for _, d := range [][]float64{nil, counted(4)} {
		for _, off := range edges() {
			for _, n := range edges() {
				for _, step := range edges() {
					v := api.Vec{D: d, Off: off, N: n, Inc: step}
					anyVec(v, api.Vec{D: d, N: 1, Inc: 1}, api.Vec{D: d, Off: off, Inc: 1}, v)
					for _, k := range edges() {
						anyMat(api.Mat{D: d, Off: off, Rows: n, Cols: k, Ld: step}, k)
					}
				}
			}
		}
	}
}

func anyVec(v api.Vec, others ...api.Vec) {
	for _, o := range others {
		move.Pair(v, o)
		move.Copy(v, o)
		move.Swap(o, v)
	}
}

func anyMat(m api.Mat, k int) {
	move.Rows(m, k, 0)
	move.Rows(m, 1, k)
	move.Take(m, k)
	move.Take(m, 0, k, k, k)
	move.Finite(m)
	move.Clone(m)
	move.Into(m, m)
	move.Into(m, view.Dense(2, 2))
	move.Into(view.Dense(1, 1), m)
}
