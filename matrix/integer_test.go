package matrix

import (
	"math"
	"math/big"
	"math/rand"
	"slices"
	"strconv"
	"testing"

	"surveyor/api"
)

type badRows struct {
	n    int
	rows [][]api.Int
	e    api.Errno
}

// badIntegers are rows with errors.
func badIntegers() []badRows {
	tooLong := api.Int(long()) + "0"
	list := []badRows{
		{-1, nil, api.ErrRange},
		{api.MaxRows + 1, nil, api.ErrRange},
		{math.MinInt, rowsOf("1"), api.ErrRange},
		{math.MaxInt, make([][]api.Int, 1000), api.ErrRange},
		{-1, [][]api.Int{{}}, api.ErrRange},
		{0, make([][]api.Int, api.MaxPieces+1), api.ErrMany},
		{1, make([][]api.Int, api.MaxPieces+1), api.ErrMany},
		{1, slices.Repeat(rowsOf("x"), api.MaxPieces+1), api.ErrMany},
		{0, rowsOf("1"), api.ErrShape},
		{2, rowsOf("1 2, 3"), api.ErrShape},
		{2, rowsOf("1 2 3, x 1"), api.ErrShape},
		{2, rowsOf("1 x, 3"), api.ErrForm},
		{2, [][]api.Int{{"1", "2"}, {"1", tooLong}, {"x"}}, api.ErrLarge},
		{2, [][]api.Int{{"1", "2"}, {"x", tooLong}, {"x"}}, api.ErrForm},
		{2, [][]api.Int{{"1", "2"}, {tooLong, "x"}, {"x"}}, api.ErrLarge},
	}
	for _, x := range []api.Int{"", "-", "-0", "01", "1/2", "x", "+1", "0" + tooLong} {
		list = append(list, badRows{1, [][]api.Int{{"1"}, {x}}, api.ErrForm}, badRows{3, [][]api.Int{{"1", x, "1"}}, api.ErrForm})
	}
	return list
}

// TestFirstIntegerErrors checks that the errors of rows come before all others (P4.2).
func TestFirstIntegerErrors(t *testing.T) {
	for _, c := range badIntegers() {
		what := " of " + strconv.Itoa(c.n) + " and " + short(c.rows)
		form, e := Hermite(c.n, c.rows)
		want(t, "Hermite"+what, len(form), 0, e, c.e)
		sum, e := Combine(c.n, c.rows, []api.Int{"x", "x", "x", "x"})
		want(t, "Combine"+what, len(sum), 0, e, c.e)
		mult, ok, e := Member(c.n, c.rows, []api.Int{"x", "x", "x", "x"})
		want(t, "Member"+what, []any{len(mult), ok}, []any{0, false}, e, c.e)
	}
}

// vectorErrors are vectors with errors where two integers are expected.
func vectorErrors() []struct {
	v []api.Int
	e api.Errno
} {
	tooLong := api.Int(long()) + "0"
	return []struct {
		v []api.Int
		e api.Errno
	}{
		{nil, api.ErrShape}, {[]api.Int{"1"}, api.ErrShape}, {[]api.Int{"1", "2", "3"}, api.ErrShape}, {[]api.Int{"x"}, api.ErrShape},
		{[]api.Int{"1", "x"}, api.ErrForm}, {[]api.Int{"1", "1/2"}, api.ErrForm}, {[]api.Int{"01", tooLong}, api.ErrForm}, {[]api.Int{"", "1"}, api.ErrForm},
		{[]api.Int{tooLong, "x"}, api.ErrLarge}, {[]api.Int{"1", "-" + tooLong}, api.ErrLarge},
	}
}

func TestP4_2Hermite(t *testing.T) {
	for _, c := range []struct {
		n          int
		rows, form string
	}{
		{2, "2 4, 3 5", "1 1, 0 2"},
		{2, "0 0, 0 0", ""},
		{2, "", ""},
		{0, "", ""},
		{1, "-6, 4", "2"},
		{1, "0, -5", "5"},
		{3, "0 0 -7, 0 -2 3", "0 2 4, 0 0 7"},
		{3, "2 7 9, 0 3 -5", "2 1 19, 0 3 -5"},
		{3, "2 -7 0", "2 -7 0"},
		{2, "4 0, 0 6, 2 3", "2 3, 0 6"},
		{2, "1 100, 0 7", "1 2, 0 7"},
		{2, "1 -100, 0 7", "1 5, 0 7"},
		{2, "6 1, 10 1, 15 1", "1 0, 0 1"},
	} {
		form, e := Hermite(c.n, rowsOf(c.rows))
		want(t, "Hermite of "+c.rows, form, rowsOf(c.form), e, api.OK)
	}
	form, e := Hermite(0, make([][]api.Int, api.MaxPieces))
	want(t, "Hermite of empty rows", len(form), 0, e, api.OK)
	form, e = Hermite(api.MaxRows, slices.Repeat([][]api.Int{zeros[api.Int](api.MaxRows)}, api.MaxPieces))
	want(t, "Hermite of zeros", len(form), 0, e, api.OK)
	forRows(func(random *rand.Rand, rows, n, digits int) {
		list := randomRows(random, rows, n, digits)
		form, e := Hermite(n, list)
		want(t, "Hermite of "+short(list), form, hermiteOf(n, list), e, api.OK)
	})
}

func TestP4_2Combine(t *testing.T) {
	for _, c := range []struct {
		n               int
		rows, mult, sum string
	}{
		{2, "2 4, 3 5", "-1 1", "1 1"},
		{2, "", "", "0 0"},
		{0, "", "", ""},
		{3, "1 2 3", "-2", "-2 -4 -6"},
		{1, "5, 7", "0 0", "0"},
	} {
		sum, e := Combine(c.n, rowsOf(c.rows), listOf[api.Int](c.mult))
		want(t, "Combine of "+c.rows, sum, listOf[api.Int](c.sum), e, api.OK)
	}
	sum, e := Combine(0, make([][]api.Int, 2), []api.Int{"1", "2"})
	want(t, "Combine of empty rows", len(sum), 0, e, api.OK)
	for _, c := range vectorErrors() {
		sum, e := Combine(1, rowsOf("1, 2"), c.v)
		want(t, "Combine by "+short(c.v), len(sum), 0, e, c.e)
	}
	sum, e = Combine(1, [][]api.Int{{api.Int(long())}}, []api.Int{"10"})
	want(t, "Combine", len(sum), 0, e, api.ErrLarge)
	sum, e = Combine(1, [][]api.Int{{api.Int(long())}}, []api.Int{"-1"})
	want(t, "Combine", sum, []api.Int{api.Int("-" + long())}, e, api.OK)
	random := rand.New(rand.NewSource(3))
	for _, digits := range []int{1, 9, 10, 100, 1000} {
		for _, rows := range []int{1, 5, api.MaxPieces} {
			list, mult := randomRows(random, rows, 3, digits), randomIntegers(random, rows, digits)
			sum, e := Combine(3, list, mult)
			want(t, "Combine of "+short(list), sum, combinationOf(3, list, mult), e, api.OK)
		}
	}
	nines := api.Int(repeat("9", 1000))
	list, mult := slices.Repeat([][]api.Int{{nines, "-" + nines}}, api.MaxPieces), slices.Repeat([]api.Int{nines}, api.MaxPieces)
	sum, e = Combine(2, list, mult)
	want(t, "Combine of "+short(list), sum, combinationOf(2, list, mult), e, api.OK)
}

// checkMember compares the result of Member with that of the reference, and checks the multipliers.
func checkMember(t *testing.T, n int, rows [][]api.Int, v []api.Int) {
	t.Helper()
	mult, ok, e := Member(n, rows, v)
	what := "Member of " + short(rows) + " and " + short(v)
	if !isMember(n, rows, v) {
		want(t, what, []any{len(mult), ok}, []any{0, false}, e, api.OK)
		return
	}
	if !ok || e != api.OK || len(mult) != len(rows) {
		t.Errorf("%s: got %s, %t and %d", what, short(mult), ok, e)
		return
	}
	want(t, what+" with "+short(mult), combinationOf(n, rows, mult), v, 0, 0)
	sum, e := Combine(n, rows, mult)
	want(t, "Combine", sum, v, e, api.OK)
}

func TestP4_2Member(t *testing.T) {
	for _, c := range []struct {
		n       int
		rows, v string
	}{
		{2, "2 4, 3 5", "3 5"},
		{2, "2 4, 3 5", "0 1"},
		{2, "2 4, 3 5", "0 -2"},
		{2, "", "0 0"},
		{2, "", "0 1"},
		{0, "", ""},
		{1, "4, 6", "2"},
		{1, "4, 6", "-3"},
		{1, "6, 10, 15", "1"},
		{1, "0, 0, 7, 0", "14"},
		{2, "1 2, 2 4, 3 6", "5 10"},
		{2, "2 4, 4 8, 6 12", "3 6"},
		{2, "2 4, 4 8, 6 12", "2 5"},
		{3, "0 4 6, 0 6 9, 0 0 0", "0 2 3"},
		{3, "0 4 6, 0 6 9, 0 0 0", "1 2 3"},
		{2, "4 0, 0 4, 1 3, 2 2", "3 1"},
		{2, "4 0, 0 4, 1 3, 2 2", "3 2"},
	} {
		checkMember(t, c.n, rowsOf(c.rows), listOf[api.Int](c.v))
	}
	checkMember(t, 0, make([][]api.Int, api.MaxPieces), nil)
	checkMember(t, 1, [][]api.Int{{api.Int(long())}}, []api.Int{"-" + api.Int(long())})
	for _, c := range vectorErrors() {
		mult, ok, e := Member(2, rowsOf("1 0, 0 1"), c.v)
		want(t, "Member of "+short(c.v), []any{len(mult), ok}, []any{0, false}, e, c.e)
	}
	forRows(func(random *rand.Rand, rows, n, digits int) {
		list := randomRows(random, rows, n, digits)
		checkMember(t, n, list, randomIntegers(random, n, digits))
		checkMember(t, n, list, combinationOf(n, list, smallIntegers(random, rows)))
		if rows > 0 {
			checkMember(t, n, list, list[random.Intn(rows)])
		}
	})
}

// smallIntegers returns multipliers that lead to a combination that is not much longer than the rows.
func smallIntegers(random *rand.Rand, n int) []api.Int {
	list := zeros[api.Int](n)
	for i := range list {
		if i < 2 || random.Intn(n) == 0 {
			list[i] = api.Int(strconv.Itoa(random.Intn(19) - 9))
		}
	}
	return list
}

// TestP4_2MemberChains has rows whose greatest common divisor becomes smaller with each of them, so that all of them are needed: multipliers must not grow with the number of rows.
func TestP4_2MemberChains(t *testing.T) {
	power := new(big.Int).Exp(big.NewInt(2), big.NewInt(api.MaxPieces-1), nil)
	random := rand.New(rand.NewSource(7))
	var rows, pairs [][]api.Int
	for i := range api.MaxPieces {
		odd, _ := new(big.Int).SetString(repeat(strconv.Itoa(1+random.Intn(9)), 250-i/4)+"1", 10)
		step := new(big.Int).Rsh(power, uint(i))
		rows = append(rows, []api.Int{api.Int(step.Mul(step, odd).String())})
	}
	checkMember(t, 1, rows, []api.Int{"1"})
	checkMember(t, 1, rows[:100], []api.Int{"1"})
	checkMember(t, 1, rows, []api.Int{api.Int("-" + repeat("7", 333))})
	for i := range 100 {
		step := new(big.Int).Rsh(power, uint(155+i)).String()
		pairs = append(pairs, []api.Int{api.Int(step), api.Int(strconv.Itoa(i % 7))}, []api.Int{api.Int(strconv.Itoa(3 * i)), api.Int(step)})
	}
	checkMember(t, 2, pairs, []api.Int{"1", "1"})
	checkMember(t, 2, pairs[:60], pairs[130])
}

// TestP4_2MemberModulo has lattices with the multiples of a long modulus, as proofs of divisibility have them: numbers remain about as long as the modulus, if these multiples come first.
func TestP4_2MemberModulo(t *testing.T) {
	random := rand.New(rand.NewSource(8))
	const n, digits = 33, 100
	var rows [][]api.Int
	for i := range n {
		rows = append(rows, unit[api.Int](n, i))
		rows[i][i] = api.Int(repeat("7", digits))
	}
	for range 20 {
		rows = append(rows, randomIntegers(random, n, digits))
	}
	checkMember(t, n, rows, combinationOf(n, rows, smallIntegers(random, len(rows))))
	checkMember(t, n, rows[:40], randomIntegers(random, n, digits))
}

func TestP4_3Lattices(t *testing.T) {
	random := rand.New(rand.NewSource(9))
	for range 100 {
		n, rows := 1+random.Intn(4), 1+random.Intn(6)
		list := randomRows(random, rows, n, 2)
		form := must(Hermite(n, list))
		want(t, "Hermite of a form", must(Hermite(n, form)), form, 0, 0)
		v := must(Combine(n, list, randomIntegers(random, rows, 2)))
		want(t, "Hermite with a member", must(Hermite(n, append([][]api.Int{v}, list...))), form, 0, 0)
		want(t, "Hermite with a member", must(Hermite(n, append(slices.Clone(list), v))), form, 0, 0)
		for _, member := range append(slices.Clone(list), v) {
			if _, ok, e := Member(n, form, member); !ok || e != api.OK {
				t.Errorf("%s is not in the lattice of %s", short(member), short(form))
			}
		}
		for _, member := range form {
			if _, ok, e := Member(n, list, member); !ok || e != api.OK {
				t.Errorf("%s is not in the lattice of %s", short(member), short(list))
			}
		}
		other := randomIntegers(random, n, 1)
		_, ok, _ := Member(n, list, other)
		if same := short(must(Hermite(n, append(slices.Clone(list), other)))) == short(form); same != ok {
			t.Errorf("%s in the lattice of %s: %t, but the form remains: %t", short(other), short(list), ok, same)
		}
	}
}

// TestLargestRows has rows of the greatest size. The document allows ErrLarge for them, but the numbers on the way are not that long.
func TestLargestRows(t *testing.T) {
	random := rand.New(rand.NewSource(10))
	rows := randomRows(random, api.MaxPieces, 20, 1)
	form, e := Hermite(20, rows)
	want(t, "Hermite", form, hermiteOf(20, rows), e, api.OK)
	form, e = Hermite(20, rows[:18])
	want(t, "Hermite", form, hermiteOf(20, rows[:18]), e, api.OK)
	rows = randomRows(random, api.MaxRows-4, api.MaxRows, 1)
	form, e = Hermite(api.MaxRows, rows)
	want(t, "the number of rows", len(form), len(rows), e, api.OK)
	v := combinationOf(api.MaxRows, rows, smallIntegers(random, len(rows)))
	for _, list := range [][][]api.Int{form, rows, append(rows, form[0], form[5], form[40])} {
		mult, ok, e := Member(api.MaxRows, list, v)
		want(t, "Member", []any{ok, len(mult)}, []any{true, len(list)}, e, api.OK)
		want(t, "the combination", combinationOf(api.MaxRows, list, mult), v, 0, 0)
	}
}

// TestTooLargeRows has numbers that become too long on the way: there are no results then.
func TestTooLargeRows(t *testing.T) {
	nines := api.Int(long())
	less := nines[1:] + "7"
	rows := [][]api.Int{{nines, "1", "0"}, {less, "0", "1"}, {"1", nines, less}}
	form, e := Hermite(3, rows)
	want(t, "Hermite", len(form), 0, e, api.ErrLarge)
	mult, ok, e := Member(3, rows, []api.Int{"1", "2", "3"})
	want(t, "Member", []any{len(mult), ok}, []any{0, false}, e, api.ErrLarge)
	rows = [][]api.Int{{nines[:3000], "0"}, {"0", less[1100:]}, {"1", "1"}}
	mult, ok, e = Member(2, rows, []api.Int{"1", "0"})
	want(t, "Member", []any{len(mult), ok}, []any{0, false}, e, api.ErrLarge)
}
