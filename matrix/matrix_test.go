package matrix

import (
	"fmt"
	"math"
	"math/rand"
	"slices"
	"testing"

	"surveyor/api"
)

// long has as many digits as a number may have.
func long() api.Rat {
	return api.Rat(repeat("9", api.MaxLong))
}

// badNumbers are the numbers that no matrix has, with their errors.
func badNumbers() map[api.Rat]api.Errno {
	return map[api.Rat]api.Errno{
		"": api.ErrForm, "-": api.ErrForm, "-0": api.ErrForm, "01": api.ErrForm, "2/4": api.ErrForm, "3/1": api.ErrForm, "1/0": api.ErrForm, "x": api.ErrForm,
		"0" + long(): api.ErrForm, "1/2/3": api.ErrForm, long() + "0/10": api.ErrForm,
		long() + "0": api.ErrLarge, "-" + long() + "0": api.ErrLarge, "1/" + long() + "0": api.ErrLarge,
	}
}

type badMatrix struct {
	m api.Matrix
	e api.Errno
}

// badMatrices are matrices with errors.
func badMatrices() []badMatrix {
	rows := func(n int, row ...api.Rat) [][]api.Rat { return slices.Repeat([][]api.Rat{row}, n) }
	list := []badMatrix{
		{api.Matrix{Cols: -1}, api.ErrRange},
		{api.Matrix{Cols: api.MaxRows + 1}, api.ErrRange},
		{api.Matrix{Cols: math.MinInt}, api.ErrRange},
		{api.Matrix{Cols: math.MaxInt, Rows: rows(100, "x")}, api.ErrRange},
		{api.Matrix{Cols: -1, Rows: rows(2)}, api.ErrRange},
		{api.Matrix{Cols: 1, Rows: rows(api.MaxRows+1, "1")}, api.ErrMany},
		{api.Matrix{Cols: 2, Rows: rows(api.MaxRows+1, "x")}, api.ErrMany},
		{api.Matrix{Cols: 0, Rows: rows(api.MaxRows + 1)}, api.ErrMany},
		{api.Matrix{Cols: 1, Rows: [][]api.Rat{{"1"}, {}}}, api.ErrShape},
		{api.Matrix{Cols: 1, Rows: [][]api.Rat{{"1", "2"}, {"1"}}}, api.ErrShape},
		{api.Matrix{Cols: 0, Rows: [][]api.Rat{{}, {"1"}}}, api.ErrShape},
		{api.Matrix{Cols: 2, Rows: [][]api.Rat{{"x", long() + "0"}, {"1", "2", "3"}}}, api.ErrShape},
		{api.Matrix{Cols: 2, Rows: [][]api.Rat{{"1", "2"}, {long() + "0", "x"}}}, api.ErrLarge},
		{api.Matrix{Cols: 2, Rows: [][]api.Rat{{"1", "2/4"}, {long() + "0", "1"}}}, api.ErrForm},
	}
	for a, e := range badNumbers() {
		list = append(list, badMatrix{api.Matrix{Cols: 1, Rows: [][]api.Rat{{"1"}, {a}}}, e}, badMatrix{api.Matrix{Cols: 3, Rows: [][]api.Rat{{"1", a, "1"}}}, e})
	}
	return list
}

func TestP4_1Check(t *testing.T) {
	for _, m := range []api.Matrix{
		{}, {Cols: api.MaxRows}, {Cols: 0, Rows: make([][]api.Rat, api.MaxRows)}, matrixOf(2, "1 2, -3/4 0"),
		{Cols: api.MaxRows, Rows: slices.Repeat([][]api.Rat{slices.Repeat([]api.Rat{"1/2"}, api.MaxRows)}, api.MaxRows)},
		{Cols: 2, Rows: [][]api.Rat{{long(), "-" + long()}, {"1/" + long(), "0"}}},
	} {
		want(t, "Check of "+short(m), Check(m), api.OK, 0, 0)
	}
	for _, c := range badMatrices() {
		want(t, "Check of "+short(c.m), Check(c.m), c.e, 0, 0)
	}
}

// TestFirstErrors checks that the errors of matrices come before all others, from left to right (P4.1 and P4.2).
func TestFirstErrors(t *testing.T) {
	none := api.Matrix{}
	for _, c := range badMatrices() {
		what := " of " + short(c.m)
		for name, function := range map[string]func(m api.Matrix) (api.Matrix, api.Errno){
			"Transpose": Transpose, "Echelon": Echelon, "Kernel": Kernel,
			"Multiply":              func(m api.Matrix) (api.Matrix, api.Errno) { return Multiply(m, api.Matrix{Cols: -1}) },
			"Multiply on the right": func(m api.Matrix) (api.Matrix, api.Errno) { return Multiply(matrixOf(3, "1 2 3"), m) },
		} {
			m, e := function(c.m)
			want(t, name+what, m, none, e, c.e)
		}
		rank, e := Rank(c.m)
		want(t, "Rank"+what, rank, 0, e, c.e)
		x, y, ok, e := Solve(c.m, []api.Rat{"x", "y", "z", "1"})
		want(t, "Solve"+what, []any{len(x), len(y), ok}, []any{0, 0, false}, e, c.e)
		want(t, "Verify"+what, Verify(c.m, []api.Rat{"x", "y", "z", "1"}, nil), c.e, 0, 0)
		m, ok, e := Inverse(c.m)
		want(t, "Inverse"+what, []any{m, ok}, []any{none, false}, e, c.e)
	}
}

func TestP4_1Transpose(t *testing.T) {
	for _, c := range [][2]api.Matrix{
		{{}, {}},
		{{Cols: 2}, {Cols: 0, Rows: [][]api.Rat{{}, {}}}},
		{{Cols: 0, Rows: [][]api.Rat{{}, {}, {}}}, {Cols: 3}},
		{matrixOf(3, "1 2 3, 4 5 6/7"), matrixOf(2, "1 4, 2 5, 3 6/7")},
		{matrixOf(1, "1, 2"), matrixOf(2, "1 2")},
	} {
		m, e := Transpose(c[0])
		want(t, "Transpose of "+short(c[0]), m, c[1], e, api.OK)
	}
	m := api.Matrix{Cols: 1, Rows: [][]api.Rat{{long()}, {"-1/" + long()}}}
	got, e := Transpose(m)
	want(t, "Transpose of long numbers", got, api.Matrix{Cols: 2, Rows: [][]api.Rat{{long(), "-1/" + long()}}}, e, api.OK)
	forMatrices(func(random *rand.Rand, rows, cols, size int) {
		m := randomMatrix(random, rows, cols, size)
		transposed := must(Transpose(m))
		for i := range rows {
			for j := range cols {
				if transposed.Rows[j][i] != m.Rows[i][j] {
					t.Fatalf("Transpose of %s: got %s", short(m), short(transposed))
				}
			}
		}
		want(t, "Transpose back", must(Transpose(transposed)), m, 0, 0)
	})
}

func TestP4_1Multiply(t *testing.T) {
	m, e := Multiply(matrixOf(2, "1 2, 3 4"), matrixOf(3, "1/2 0 1, 1 -1 0"))
	want(t, "Multiply", m, matrixOf(3, "5/2 -2 1, 11/2 -4 3"), e, api.OK)
	m, e = Multiply(api.Matrix{Cols: 0, Rows: [][]api.Rat{{}, {}}}, api.Matrix{Cols: 2})
	want(t, "Multiply", m, matrixOf(2, "0 0, 0 0"), e, api.OK)
	m, e = Multiply(api.Matrix{Cols: 2}, matrixOf(1, "1, 2"))
	want(t, "Multiply", m, api.Matrix{Cols: 1}, e, api.OK)
	m, e = Multiply(matrixOf(1, "1, 2"), api.Matrix{Cols: 0, Rows: [][]api.Rat{{}}})
	want(t, "Multiply", m, api.Matrix{Cols: 0, Rows: [][]api.Rat{{}, {}}}, e, api.OK)
	for _, c := range [][2]api.Matrix{{matrixOf(2, "1 2"), matrixOf(2, "1 2")}, {matrixOf(1, "1"), {Cols: 1}}, {{}, matrixOf(1, "1")}, {{Cols: 3}, matrixOf(3, "1 2 3, 4 5 6")}} {
		m, e := Multiply(c[0], c[1])
		want(t, "Multiply", m, api.Matrix{}, e, api.ErrShape)
	}
	m, e = Multiply(api.Matrix{Cols: 1, Rows: [][]api.Rat{{long()}}}, matrixOf(1, "10"))
	want(t, "Multiply", m, api.Matrix{}, e, api.ErrLarge)
	m, e = Multiply(api.Matrix{Cols: 1, Rows: [][]api.Rat{{"1/" + long()}}}, matrixOf(1, "1/11"))
	want(t, "Multiply", m, api.Matrix{}, e, api.ErrLarge)
	forMatrices(func(random *rand.Rand, rows, cols, size int) {
		a, b := randomMatrix(random, rows, cols, size), randomMatrix(random, cols, random.Intn(max(rows, cols)+1), size)
		m, e := Multiply(a, b)
		want(t, "Multiply of "+short(a)+" and "+short(b), m, productOf(a, b), e, api.OK)
	})
}

func TestP4_1Echelon(t *testing.T) {
	for _, c := range []struct {
		m, form api.Matrix
	}{
		{matrixOf(3, "1 2 3, 2 4 7"), matrixOf(3, "1 2 0, 0 0 1")},
		{matrixOf(2, "0 0, 0 0"), matrixOf(2, "")},
		{matrixOf(2, "0 -3, 0 5"), matrixOf(2, "0 1")},
		{matrixOf(2, "0 1, 1 0"), matrixOf(2, "1 0, 0 1")},
		{matrixOf(3, "1/2 1/3 0, 1/2 1/3 1/5"), matrixOf(3, "1 2/3 0, 0 0 1")},
		{matrixOf(3, "-2 4 1, -2 4 1, 1 -2 -1/2"), matrixOf(3, "1 -2 -1/2")},
		{api.Matrix{}, api.Matrix{}},
		{api.Matrix{Cols: 5}, api.Matrix{Cols: 5}},
		{api.Matrix{Cols: 0, Rows: [][]api.Rat{{}, {}}}, api.Matrix{}},
		{api.Matrix{Cols: 1, Rows: [][]api.Rat{{long()}, {"1/" + long()}}}, matrixOf(1, "1")},
	} {
		form, e := Echelon(c.m)
		want(t, "Echelon of "+short(c.m), form, c.form, e, api.OK)
		rank, e := Rank(c.m)
		want(t, "Rank of "+short(c.m), rank, len(c.form.Rows), e, api.OK)
	}
	forMatrices(func(random *rand.Rand, rows, cols, size int) {
		m := randomMatrix(random, rows, cols, size)
		wanted, pivots := echelonOf(m)
		form, e := Echelon(m)
		want(t, "Echelon of "+short(m), form, wanted, e, api.OK)
		rank, e := Rank(m)
		want(t, "Rank of "+short(m), rank, len(pivots), e, api.OK)
	})
}

func TestP4_1Kernel(t *testing.T) {
	for _, c := range []struct {
		m, kernel api.Matrix
	}{
		{matrixOf(3, "1 2 3, 2 4 7"), matrixOf(3, "-2 1 0")},
		{matrixOf(3, "0 0 0"), matrixOf(3, "1 0 0, 0 1 0, 0 0 1")},
		{matrixOf(4, "0 2 0 1, 0 0 3 1"), matrixOf(4, "1 0 0 0, 0 -1/2 -1/3 1")},
		{matrixOf(2, "1 2, 3 4"), matrixOf(2, "")},
		{api.Matrix{}, api.Matrix{}},
		{api.Matrix{Cols: 2}, matrixOf(2, "1 0, 0 1")},
		{api.Matrix{Cols: 0, Rows: [][]api.Rat{{}}}, api.Matrix{}},
	} {
		kernel, e := Kernel(c.m)
		want(t, "Kernel of "+short(c.m), kernel, c.kernel, e, api.OK)
	}
	forMatrices(func(random *rand.Rand, rows, cols, size int) {
		m := randomMatrix(random, rows, cols, size)
		form, pivots := echelonOf(m)
		wanted := api.Matrix{Cols: cols}
		for j := range cols {
			if slices.Contains(pivots, j) {
				continue
			}
			vector := unit[api.Rat](cols, j)
			for i, p := range pivots {
				x := toBig(form.Rows[i][j])
				vector[p] = api.Rat(x.Neg(x).RatString())
			}
			wanted.Rows = append(wanted.Rows, vector)
		}
		kernel, e := Kernel(m)
		want(t, "Kernel of "+short(m), kernel, wanted, e, api.OK)
	})
}

func TestP4_1Inverse(t *testing.T) {
	for _, c := range []struct {
		m, inverse api.Matrix
		ok         bool
		e          api.Errno
	}{
		{matrixOf(2, "1 2, 3 4"), matrixOf(2, "-2 1, 3/2 -1/2"), true, api.OK},
		{matrixOf(2, "1 2, 2 4"), api.Matrix{}, false, api.OK},
		{matrixOf(1, "-2/3"), matrixOf(1, "-3/2"), true, api.OK},
		{matrixOf(1, "0"), api.Matrix{}, false, api.OK},
		{matrixOf(2, "0 1, 1 0"), matrixOf(2, "0 1, 1 0"), true, api.OK},
		{matrixOf(3, "0 1 2, 0 3 4, 0 5 7"), api.Matrix{}, false, api.OK},
		{api.Matrix{}, api.Matrix{}, true, api.OK},
		{api.Matrix{Cols: 1}, api.Matrix{}, false, api.ErrShape},
		{api.Matrix{Cols: 0, Rows: [][]api.Rat{{}}}, api.Matrix{}, false, api.ErrShape},
		{matrixOf(2, "1 2"), api.Matrix{}, false, api.ErrShape},
		{matrixOf(2, "1 2, 3 4, 5 6"), api.Matrix{}, false, api.ErrShape},
		{api.Matrix{Cols: 1, Rows: [][]api.Rat{{"-" + long()}}}, api.Matrix{Cols: 1, Rows: [][]api.Rat{{"-1/" + long()}}}, true, api.OK},
	} {
		inverse, ok, e := Inverse(c.m)
		want(t, "Inverse of "+short(c.m), []any{inverse, ok}, []any{c.inverse, c.ok}, e, c.e)
	}
	forMatrices(func(random *rand.Rand, rows, cols, size int) {
		m := randomMatrix(random, rows, rows, size)
		inverse, ok, e := Inverse(m)
		wide := bigRows(beside(m.Rows, identity(rows)))
		if len(reduce(rows, wide)) < rows {
			want(t, "Inverse of "+short(m), []any{inverse, ok}, []any{api.Matrix{}, false}, e, api.OK)
			return
		}
		wanted := api.Matrix{Cols: rows}
		for _, row := range texts[api.Rat](wide) {
			wanted.Rows = append(wanted.Rows, row[rows:])
		}
		want(t, "Inverse of "+short(m), []any{inverse, ok}, []any{wanted, true}, e, api.OK)
	})
}

// refutes is the reference for Verify.
func refutes(m api.Matrix, b, y []api.Rat) bool {
	factors := mapped(y, toBig[api.Rat])
	for _, column := range bigRows(columns(m.Cols, m.Rows)) {
		if dot(factors, column).Sign() != 0 {
			return false
		}
	}
	return dot(factors, mapped(b, toBig[api.Rat])).RatString() == "1"
}

// checkSolve compares the result of Solve with that of the reference, and checks vectors that refute.
func checkSolve(t *testing.T, m api.Matrix, b []api.Rat) {
	t.Helper()
	x, y, ok, e := Solve(m, b)
	rows := bigRows(beside(m.Rows, columns(len(b), [][]api.Rat{b})))
	pivots := reduce(m.Cols+1, rows)
	if slices.Contains(pivots, m.Cols) {
		if ok || e != api.OK || len(x) > 0 || len(y) != len(b) || !refutes(m, b, y) {
			t.Errorf("Solve of %s and %s: got %s, %s, %t and %d, want a vector that refutes", short(m), short(b), short(x), short(y), ok, e)
			return
		}
		want(t, "Verify of "+short(y), Verify(m, b, y), api.OK, 0, 0)
		return
	}
	solution := zeros[api.Rat](m.Cols)
	for i, p := range pivots {
		solution[p] = api.Rat(rows[i][m.Cols].RatString())
	}
	want(t, "Solve of "+short(m)+" and "+short(b), []any{x, len(y), ok}, []any{solution, 0, true}, e, api.OK)
}

func TestP4_2Solve(t *testing.T) {
	for _, c := range []struct {
		m api.Matrix
		b string
	}{
		{matrixOf(2, "1 1, 2 2"), "1 3"},
		{matrixOf(2, "1 1, 2 2"), "1 2"},
		{matrixOf(2, "0 1/2, 3 0"), "1 1/7"},
		{matrixOf(2, "0 0, 0 0"), "0 0"},
		{matrixOf(2, "0 0, 0 0"), "0 -5/3"},
		{matrixOf(3, "1 2 3, 4 5 6, 7 8 9"), "1 2 3"},
		{matrixOf(3, "1 2 3, 4 5 6, 7 8 9"), "1 2 4"},
		{api.Matrix{}, ""},
		{api.Matrix{Cols: 3}, ""},
		{api.Matrix{Cols: 0, Rows: [][]api.Rat{{}, {}}}, "0 0"},
		{api.Matrix{Cols: 0, Rows: [][]api.Rat{{}, {}}}, "0 -2/3"},
		{api.Matrix{Cols: 1, Rows: [][]api.Rat{{long()}}}, "1"},
		{api.Matrix{Cols: 1, Rows: [][]api.Rat{{"0"}}}, "-1/" + string(long())},
	} {
		checkSolve(t, c.m, listOf[api.Rat](c.b))
	}
	m := matrixOf(2, "1 1, 2 2")
	for _, b := range [][]api.Rat{nil, {"1"}, {"1", "2", "3"}, {"x"}} {
		x, y, ok, e := Solve(m, b)
		want(t, "Solve", []any{len(x), len(y), ok}, []any{0, 0, false}, e, api.ErrShape)
	}
	for a, f := range badNumbers() {
		for _, b := range [][]api.Rat{{a, "1"}, {"1", a}, {a, "x"}, {a, long() + "0"}} {
			x, y, ok, e := Solve(m, b)
			want(t, "Solve", []any{len(x), len(y), ok}, []any{0, 0, false}, e, f)
		}
	}
	forMatrices(func(random *rand.Rand, rows, cols, size int) {
		m := randomMatrix(random, rows, cols, size)
		checkSolve(t, m, randomList(random, rows, size))
		b := zeros[api.Rat](rows)
		if cols > 0 {
			b = columns(cols, m.Rows)[random.Intn(cols)]
		}
		checkSolve(t, m, b)
	})
}

func TestP4_2Verify(t *testing.T) {
	m := matrixOf(2, "1 1, 2 2")
	for _, c := range []struct {
		b, y string
		e    api.Errno
	}{
		{"1 3", "-2 1", api.OK},
		{"1 3", "-4 2", api.ErrProof},
		{"1 3", "2 -1", api.ErrProof},
		{"1 3", "0 1/3", api.ErrProof},
		{"1 3", "1 0", api.ErrProof},
		{"1 3", "0 0", api.ErrProof},
		{"1 2", "-2 1", api.ErrProof},
		{"1/3 1/2", "12 -6", api.OK},
		{"1/3 1/2", "-12 6", api.ErrProof},
		{"1/3 1/2", "12/1 -6", api.ErrForm},
		{"1/3 1", "-6 3", api.OK},
		{"1", "-2 1", api.ErrShape},
		{"1 3 0", "-2 1", api.ErrShape},
		{"1", "x", api.ErrShape},
		{"1 x", "1", api.ErrForm},
		{"1 3", "1", api.ErrShape},
		{"1 3", "", api.ErrShape},
		{"1 3", "x 1 2", api.ErrShape},
		{"1 3", "-2 01", api.ErrForm},
	} {
		want(t, "Verify of "+c.b+" and "+c.y, Verify(m, listOf[api.Rat](c.b), listOf[api.Rat](c.y)), c.e, 0, 0)
	}
	for a, f := range badNumbers() {
		want(t, "Verify", Verify(m, []api.Rat{"1", a}, []api.Rat{"x"}), f, 0, 0)
		want(t, "Verify", Verify(m, []api.Rat{"1", "3"}, []api.Rat{a, "x"}), f, 0, 0)
	}
	empty := api.Matrix{Cols: 0, Rows: [][]api.Rat{{}, {}}}
	want(t, "Verify", Verify(empty, []api.Rat{"0", "3"}, []api.Rat{"7", "1/3"}), api.OK, 0, 0)
	want(t, "Verify", Verify(empty, []api.Rat{"0", "0"}, []api.Rat{"7", "1/3"}), api.ErrProof, 0, 0)
	want(t, "Verify", Verify(api.Matrix{}, nil, nil), api.ErrProof, 0, 0)
	want(t, "Verify", Verify(api.Matrix{Cols: 2}, nil, nil), api.ErrProof, 0, 0)
	forMatrices(func(random *rand.Rand, rows, cols, size int) {
		m, b, y := randomMatrix(random, rows, cols, size), randomList(random, rows, size), randomList(random, rows, size)
		wanted := api.ErrProof
		if refutes(m, b, y) {
			wanted = api.OK
		}
		want(t, "Verify", Verify(m, b, y), wanted, 0, 0)
	})
}

// TestP4_3Systems checks the consequences for systems, kernels and inverses.
func TestP4_3Systems(t *testing.T) {
	forMatrices(func(random *rand.Rand, rows, cols, size int) {
		m := randomMatrix(random, rows, cols, min(size, 3))
		kernel := must(Kernel(m))
		if rank := must(Rank(m)); rank+len(kernel.Rows) != cols {
			t.Errorf("%s has the rank %d and %d kernel vectors", short(m), rank, len(kernel.Rows))
		}
		image := must(Multiply(m, must(Transpose(kernel))))
		for _, row := range image.Rows {
			want(t, "the image of a kernel vector", row, zeros[api.Rat](len(kernel.Rows)), 0, 0)
		}
		b := randomList(random, rows, min(size, 3))
		x, _, ok, e := Solve(m, b)
		if e == api.OK && ok {
			image := must(Multiply(m, must(Transpose(api.Matrix{Cols: cols, Rows: [][]api.Rat{x}}))))
			want(t, "the image of a solution", must(Transpose(image)).Rows[0], b, 0, 0)
			want(t, "Verify", Verify(m, b, randomList(random, rows, 2)), api.ErrProof, 0, 0)
		}
		square := randomMatrix(random, rows, rows, min(size, 2))
		if inverse, ok, _ := Inverse(square); ok {
			want(t, "the product with the inverse", must(Multiply(square, inverse)).Rows, identity(rows), 0, 0)
			want(t, "the product with the inverse", must(Multiply(inverse, square)).Rows, identity(rows), 0, 0)
		}
	})
}

// TestLargest has matrices of the greatest size. The document allows ErrLarge for them, but the numbers on the way are not that long.
func TestLargest(t *testing.T) {
	random := rand.New(rand.NewSource(4))
	m := randomMatrix(random, api.MaxRows, api.MaxRows, 2)
	wanted, pivots := echelonOf(m)
	form, e := Echelon(m)
	want(t, "Echelon", form, wanted, e, api.OK)
	rank, e := Rank(m)
	want(t, "Rank", rank, len(pivots), e, api.OK)
	checkSolve(t, m, randomList(random, api.MaxRows, 1))
	checkSolve(t, m, columns(m.Cols, m.Rows)[5])
	square := api.Matrix{Cols: api.MaxRows, Rows: identity(api.MaxRows)}
	inverse, ok, e := Inverse(square)
	want(t, "Inverse", []any{inverse, ok}, []any{square, true}, e, api.OK)
}

// TestTooLarge has numbers for which results, or what leads to them, are too long: there are no results then.
func TestTooLarge(t *testing.T) {
	m := api.Matrix{Cols: 2, Rows: [][]api.Rat{{long(), "1"}, {"1", long()}}}
	none := api.Matrix{}
	form, e := Multiply(m, m)
	want(t, "Multiply", form, none, e, api.ErrLarge)
	inverse, ok, e := Inverse(m)
	want(t, "Inverse", []any{inverse, ok}, []any{none, false}, e, api.ErrLarge)
	x, y, ok, e := Solve(m, []api.Rat{"1", "1"})
	want(t, "Solve", []any{len(x), len(y), ok}, []any{0, 0, false}, e, api.ErrLarge)
	m.Cols = 3
	m.Rows = [][]api.Rat{{long(), "1", "7"}, {"1", long(), "-7"}}
	kernel, e := Kernel(m)
	want(t, "Kernel", kernel, none, e, api.ErrLarge)
	form, e = Echelon(m)
	want(t, "Echelon", form, none, e, api.ErrLarge)
	less := "1" + long()[1:]
	refuted := api.Matrix{Cols: 1, Rows: [][]api.Rat{{long()}, {"-" + less}}}
	want(t, "Verify", Verify(refuted, []api.Rat{long(), "0"}, []api.Rat{"1/" + long(), "1/" + less}), api.ErrLarge, 0, 0)
}

// TestMemory checks that arguments are not changed, and that results do not share their memory, nor that of one another.
func TestMemory(t *testing.T) {
	m := api.Matrix{Cols: 2, Rows: [][]api.Rat{append(listOf[api.Rat]("1 0"), "x")[:2], append(listOf[api.Rat]("0 1"), "x")[:2]}}
	b := append(listOf[api.Rat]("1 2"), "x")[:2]
	rows := [][]api.Int{append(listOf[api.Int]("1 0"), "x")[:2], append(listOf[api.Int]("0 1"), "x")[:2], listOf[api.Int]("0 2")}
	mult := append(listOf[api.Int]("1 0 0"), "x")[:3]
	rest := api.Matrix{Cols: 2, Rows: [][]api.Rat{{"1", "2"}, {"2", "4"}}}
	state := func() string {
		return fmt.Sprint(m, m.Rows[0][:3], m.Rows[1][:3], b[:3], rows, rows[0][:3], rows[1][:3], mult[:4], rest)
	}
	before := state()
	inverse, _, _ := Inverse(m)
	x, _, _, _ := Solve(m, b)
	_, y, _, _ := Solve(rest, []api.Rat{"1", "3"})
	matrices := []api.Matrix{must(Transpose(m)), must(Multiply(m, m)), must(Echelon(m)), must(Kernel(rest)), inverse, {Rows: [][]api.Rat{x, y}}}
	for _, result := range matrices {
		overwrite(t, result.Rows)
	}
	member, _, _ := Member(2, rows, rows[2])
	overwrite(t, must(Hermite(2, rows)))
	overwrite(t, must(Hermite(2, rows[:1])))
	overwrite(t, [][]api.Int{must(Combine(2, rows, mult)), member})
	Verify(rest, []api.Rat{"1", "3"}, y)
	if after := state(); after != before {
		t.Errorf("arguments were changed from %s to %s", before, after)
	}
}

// overwrite changes all rows, also behind their ends, one after the other.
func overwrite[T ~string](t *testing.T, rows [][]T) {
	t.Helper()
	for i, row := range rows {
		for j := range row {
			if row[j] == "y" {
				t.Errorf("row %d shares memory with another one", i)
			}
			row[j] = "y"
		}
		_ = append(row, "y")
	}
}
