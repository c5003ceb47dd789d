package matrix

import (
	"fmt"
	"math/big"
	"math/rand"
	"slices"
	"strings"
	"testing"

	"surveyor/api"
)

// This file has the references that results are compared with, and random arguments.

func repeat(digit string, n int) string {
	return strings.Repeat(digit, n)
}

// matrixOf reads rows of numbers, as "1 2, 3 4".
func matrixOf(n int, text string) api.Matrix {
	m := api.Matrix{Cols: n}
	for row := range strings.SplitSeq(text, ",") {
		if text != "" {
			m.Rows = append(m.Rows, listOf[api.Rat](row))
		}
	}
	return m
}

func listOf[T ~string](text string) []T {
	var list []T
	for _, word := range strings.Fields(text) {
		list = append(list, T(word))
	}
	return list
}

func rowsOf(text string) [][]api.Int {
	var rows [][]api.Int
	for row := range strings.SplitSeq(text, ",") {
		if text != "" {
			rows = append(rows, listOf[api.Int](row))
		}
	}
	return rows
}

func short(x any) string {
	text := fmt.Sprintf("%q", x)
	if len(text) > 300 {
		return fmt.Sprintf("%s.. (%d bytes)", text[:300], len(text))
	}
	return text
}

// want compares results, where nil and empty slices are the same.
func want(t *testing.T, what string, got, wanted any, e, f api.Errno) {
	t.Helper()
	if fmt.Sprintf("%q", got) != fmt.Sprintf("%q", wanted) || e != f {
		t.Errorf("%s: got %s and %d, want %s and %d", what, short(got), e, short(wanted), f)
	}
}

func must[T any](x T, e api.Errno) T {
	if e != api.OK {
		panic(fmt.Sprint("error ", e))
	}
	return x
}

func toBig[T ~string](a T) *big.Rat {
	value, ok := new(big.Rat).SetString(string(a))
	if !ok {
		panic("no number: " + a)
	}
	return value
}

func bigRows[T ~string](rows [][]T) [][]*big.Rat {
	return mapped(rows, func(row []T) []*big.Rat { return mapped(row, toBig[T]) })
}

func texts[T ~string](rows [][]*big.Rat) [][]T {
	return mapped(rows, func(row []*big.Rat) []T {
		return mapped(row, func(x *big.Rat) T { return T(x.RatString()) })
	})
}

// reduce brings rows into reduced row echelon form, with pivots in the first n columns, and returns the columns of the pivots.
func reduce(n int, rows [][]*big.Rat) []int {
	var pivots []int
	for j := range n {
		top := len(pivots)
		found := slices.IndexFunc(rows[top:], func(row []*big.Rat) bool { return row[j].Sign() != 0 })
		if found < 0 {
			continue
		}
		rows[top], rows[top+found] = rows[top+found], rows[top]
		scale(rows[top], new(big.Rat).Inv(rows[top][j]))
		for i, row := range rows {
			if i != top {
				subtract(row, rows[top], new(big.Rat).Set(row[j]))
			}
		}
		pivots = append(pivots, j)
	}
	return pivots
}

func scale(row []*big.Rat, c *big.Rat) {
	for _, x := range row {
		x.Mul(x, c)
	}
}

func subtract(row, other []*big.Rat, c *big.Rat) {
	for i, x := range row {
		x.Sub(x, new(big.Rat).Mul(c, other[i]))
	}
}

func dot(a, b []*big.Rat) *big.Rat {
	sum := new(big.Rat)
	for i, x := range a {
		sum.Add(sum, new(big.Rat).Mul(x, b[i]))
	}
	return sum
}

// echelonOf is the reference for Echelon.
func echelonOf(m api.Matrix) (api.Matrix, []int) {
	rows := bigRows(m.Rows)
	pivots := reduce(m.Cols, rows)
	return api.Matrix{Cols: m.Cols, Rows: texts[api.Rat](rows[:len(pivots)])}, pivots
}

// productOf is the reference for Multiply.
func productOf(a, b api.Matrix) api.Matrix {
	product := api.Matrix{Cols: b.Cols}
	right := bigRows(columns(b.Cols, b.Rows))
	for _, row := range bigRows(a.Rows) {
		product.Rows = append(product.Rows, mapped(right, func(column []*big.Rat) api.Rat { return api.Rat(dot(row, column).RatString()) }))
	}
	return product
}

// hermiteOf is the reference for Hermite: in each column, the rows are reduced by one of those with the least element, until only that one has an element that is not 0.
func hermiteOf(n int, rows [][]api.Int) [][]api.Int {
	rest := bigRows(rows)
	var form [][]*big.Rat
	for j := range n {
		pivot := isolate(rest, j)
		if pivot < 0 {
			continue
		}
		row := rest[pivot]
		rest = slices.Delete(rest, pivot, pivot+1)
		if row[j].Sign() < 0 {
			scale(row, big.NewRat(-1, 1))
		}
		for _, above := range form {
			subtract(above, row, floor(new(big.Rat).Quo(above[j], row[j])))
		}
		form = append(form, row)
	}
	return texts[api.Int](form)
}

// isolate combines rows until at most one has an element in column j that is not 0, and returns its index.
func isolate(rows [][]*big.Rat, j int) int {
	for {
		least, others := -1, 0
		for i, row := range rows {
			if row[j].Sign() == 0 {
				continue
			}
			others++
			if least < 0 || new(big.Rat).Abs(row[j]).Cmp(new(big.Rat).Abs(rows[least][j])) < 0 {
				least = i
			}
		}
		if others <= 1 {
			return least
		}
		for i, row := range rows {
			if i != least {
				subtract(row, rows[least], floor(new(big.Rat).Quo(row[j], rows[least][j])))
			}
		}
	}
}

func floor(x *big.Rat) *big.Rat {
	quotient := new(big.Int)
	quotient.DivMod(x.Num(), x.Denom(), new(big.Int))
	return new(big.Rat).SetInt(quotient)
}

// isMember is the reference for Member, by the Hermite normal form of the reference.
func isMember(n int, rows [][]api.Int, v []api.Int) bool {
	rest := mapped(v, toBig[api.Int])
	for _, row := range bigRows(hermiteOf(n, rows)) {
		j := slices.IndexFunc(row, func(x *big.Rat) bool { return x.Sign() != 0 })
		subtract(rest, row, floor(new(big.Rat).Quo(rest[j], row[j])))
	}
	return !slices.ContainsFunc(rest, func(x *big.Rat) bool { return x.Sign() != 0 })
}

func combinationOf(n int, rows [][]api.Int, mult []api.Int) []api.Int {
	sum := bigRows([][]api.Int{zeros[api.Int](n)})
	for i, row := range bigRows(rows) {
		subtract(sum[0], row, new(big.Rat).Neg(toBig(mult[i])))
	}
	return texts[api.Int](sum)[0]
}

// randomInt returns an integer of so many digits, or a small one now and then.
func randomInt(random *rand.Rand, digits int) api.Int {
	if random.Intn(4) == 0 {
		digits = 1
	}
	text := make([]byte, digits)
	for i := range text {
		text[i] = byte('0' + random.Intn(10))
	}
	if text[0] == '0' {
		return "0"
	}
	if random.Intn(2) == 0 {
		return "-" + api.Int(text)
	}
	return api.Int(text)
}

// randomRat returns a number of at most so many bytes, often of exactly so many.
func randomRat(random *rand.Rand, size int) api.Rat {
	if size < 3 || random.Intn(3) == 0 {
		text := api.Rat(randomInt(random, size))
		if len(text) > size {
			return text[1:]
		}
		return text
	}
	half := (size - 1) / 2
	num, den := toBig(randomInt(random, half)), toBig(randomInt(random, half))
	if den.Sign() == 0 {
		den.SetInt64(7)
	}
	text := api.Rat(num.Quo(num, den).RatString())
	if len(text) > size {
		return text[1:]
	}
	return text
}

func randomList(random *rand.Rand, n, size int) []api.Rat {
	list := make([]api.Rat, n)
	for i := range list {
		list[i] = randomRat(random, size)
	}
	return list
}

// randomMatrix returns a matrix, now and then one with rows that depend on others.
func randomMatrix(random *rand.Rand, rows, cols, size int) api.Matrix {
	m := api.Matrix{Cols: cols}
	for range rows {
		m.Rows = append(m.Rows, randomList(random, cols, size))
	}
	for i := 1; i < rows; i++ {
		if random.Intn(4) == 0 {
			m.Rows[i] = slices.Clone(m.Rows[random.Intn(i)])
		}
	}
	return m
}

func randomIntegers(random *rand.Rand, n, digits int) []api.Int {
	list := make([]api.Int, n)
	for i := range list {
		list[i] = randomInt(random, digits)
	}
	return list
}

func randomRows(random *rand.Rand, rows, n, digits int) [][]api.Int {
	list := make([][]api.Int, rows)
	for i := range list {
		list[i] = randomIntegers(random, n, digits)
	}
	return list
}

// bounds are numbers of rows and columns, with the bytes of numbers for which the document rules out ErrLarge: (k + 1) (k + 1) b is at most 1000.
func bounds() [][2]int {
	return [][2]int{{1, 250}, {2, 111}, {3, 62}, {4, 40}, {5, 27}, {6, 20}, {7, 15}, {8, 12}, {9, 10}, {10, 8}, {13, 5}, {17, 3}, {21, 2}, {30, 1}}
}

// forMatrices calls a function with many sizes of matrices within these bounds.
func forMatrices(function func(random *rand.Rand, rows, cols, size int)) {
	random := rand.New(rand.NewSource(1))
	for _, bound := range bounds() {
		k, size := bound[0], bound[1]
		rounds := 1 + 30/k
		for range rounds {
			function(random, k, k, size)
			function(random, k, random.Intn(k+1), size)
			function(random, random.Intn(k+1), k, size)
			function(random, random.Intn(k+1), random.Intn(k+1), min(size, 3))
		}
	}
}

// forRows calls a function with many sizes of integer rows for which the document rules out ErrLarge: 3 to the power of the lesser one of their number and n, times the number of digits, is at most 1000.
func forRows(function func(random *rand.Rand, rows, n, digits int)) {
	random := rand.New(rand.NewSource(2))
	for _, bound := range [][2]int{{1, 333}, {2, 111}, {3, 37}, {4, 12}, {5, 4}, {6, 1}} {
		m, digits := bound[0], bound[1]
		for range 10 {
			function(random, m, m, digits)
			function(random, m, m+random.Intn(10), digits)
			function(random, m+random.Intn(10), m, digits)
			function(random, random.Intn(m+1), random.Intn(m+1), min(digits, 2))
		}
		function(random, m, api.MaxRows, digits)
		function(random, api.MaxPieces, m, digits)
	}
}
