package linear

import (
	"fmt"
	"math"
	"math/big"
	"math/rand"
	"slices"
	"strings"
	"testing"

	"surveyor/api"
)

func repeat(digit string, n int) api.Rat {
	return api.Rat(strings.Repeat(digit, n))
}

// longest has as many digits as a short number may have.
func longest() api.Rat {
	return repeat("9", api.MaxDigits)
}

func line(constant api.Rat, coef ...api.Rat) api.Linear {
	return api.Linear{Coef: coef, Const: constant}
}

// forms are numbers that are not canonical, of any length.
func forms() []api.Rat {
	return []api.Rat{
		"", "-", "-0", "01", "+1", "x", "1/", "/2", "2/4", "3/1", "1/0", "0/3", "1/-2", " 1", "1.5",
		"0" + repeat("7", 200), repeat("7", 200) + "/7", repeat("7", 5000) + "/7", repeat("2", api.MaxDigits+1) + "/4",
	}
}

// larges are canonical numbers that are not short.
func larges() []api.Rat {
	return []api.Rat{
		"1" + repeat("0", api.MaxDigits),
		"-1" + repeat("0", api.MaxDigits),
		repeat("7", api.MaxLong),
		repeat("7", api.MaxLong+1),
		"1/1" + repeat("0", api.MaxDigits),
		"-3/1" + repeat("0", api.MaxDigits),
		"1" + repeat("0", api.MaxDigits) + "/3",
		"1/" + repeat("7", api.MaxLong+1),
	}
}

// numberErrors are the numbers that no expression has, with their errors.
func numberErrors() map[api.Rat]api.Errno {
	list := map[api.Rat]api.Errno{}
	for _, a := range forms() {
		list[a] = api.ErrForm
	}
	for _, a := range larges() {
		list[a] = api.ErrLarge
	}
	return list
}

// shorts are numbers that expressions may have, among them the longest ones.
func shorts() []api.Rat {
	return []api.Rat{"0", "1", "-1", "1/2", "-22/7", longest(), "-" + longest(), "1/" + longest(), "-" + repeat("7", api.MaxDigits) + "/1" + repeat("0", api.MaxDigits-1)}
}

// invalid are expressions with errors.
func invalid() []struct {
	l api.Linear
	e api.Errno
} {
	many := func(n int, c api.Rat) []api.Rat { return slices.Repeat([]api.Rat{c}, n) }
	return []struct {
		l api.Linear
		e api.Errno
	}{
		{api.Linear{}, api.ErrForm},
		{line("01", "1"), api.ErrForm},
		{line("1", "1", "2/4", longest()+"0"), api.ErrForm},
		{line("1", "1", longest()+"0", "2/4"), api.ErrLarge},
		{line("2/4", longest()+"0"), api.ErrLarge},
		{line(longest()+"0", "2/4"), api.ErrForm},
		{line("1/"+longest()+"0", "1"), api.ErrLarge},
		{line("0", many(api.MaxDims+1, "1")...), api.ErrMany},
		{line("x", many(api.MaxDims+1, "x")...), api.ErrMany},
		{line("0", many(1000, "1")...), api.ErrMany},
		{line("x", many(api.MaxDims, "1")...), api.ErrForm},
	}
}

func short(x any) string {
	text := fmt.Sprintf("%q", x)
	if len(text) > 300 {
		return fmt.Sprintf("%s.. (%d bytes)", text[:300], len(text))
	}
	return text
}

// want compares results, where nil and empty slices are the same.
func want(t *testing.T, what string, got, wanted any, e, f api.Errno) {
	t.Helper()
	if fmt.Sprintf("%q", got) != fmt.Sprintf("%q", wanted) || e != f {
		t.Errorf("%s: got %s and %d, want %s and %d", what, short(got), e, short(wanted), f)
	}
}

func toBig(a api.Rat) *big.Rat {
	value, ok := new(big.Rat).SetString(string(a))
	if !ok {
		panic("no number: " + a)
	}
	return value
}

func isShortBig(x *big.Int) bool {
	return len(new(big.Int).Abs(x).String()) <= api.MaxDigits
}

// fitting is the expression with these numbers, or the error that the document asks for.
func fitting(coef []*big.Rat, constant *big.Rat) (api.Linear, api.Errno) {
	result := api.Linear{Const: api.Rat(constant.RatString())}
	for _, c := range coef {
		result.Coef = append(result.Coef, api.Rat(c.RatString()))
	}
	for _, c := range append(slices.Clone(coef), constant) {
		if !isShortBig(c.Num()) || !isShortBig(c.Denom()) {
			return api.Linear{}, api.ErrLarge
		}
	}
	return result, api.OK
}

func bigs(list []api.Rat) []*big.Rat {
	var values []*big.Rat
	for _, x := range list {
		values = append(values, toBig(x))
	}
	return values
}

func randomInt(random *rand.Rand, digits int) *big.Int {
	limit := new(big.Int).Exp(big.NewInt(10), big.NewInt(int64(digits)), nil)
	return limit.Rand(random, limit)
}

// randomRat returns a number with at most so many digits above and below the line.
func randomRat(random *rand.Rand, digits int) api.Rat {
	if random.Intn(5) == 0 {
		return "0"
	}
	num, den := randomInt(random, 1+random.Intn(digits)), big.NewInt(1)
	if random.Intn(2) == 0 {
		den.Add(den, randomInt(random, 1+random.Intn(digits)))
	}
	if len(den.String()) > digits {
		den.SetInt64(7)
	}
	if random.Intn(2) == 0 {
		num.Neg(num)
	}
	return api.Rat(new(big.Rat).SetFrac(num, den).RatString())
}

func randomPoint(random *rand.Rand, n, digits int) []api.Rat {
	point := make([]api.Rat, n)
	for i := range point {
		point[i] = randomRat(random, digits)
	}
	return point
}

func randomLinear(random *rand.Rand, n, digits int) api.Linear {
	return api.Linear{Coef: randomPoint(random, n, digits), Const: randomRat(random, digits)}
}

// sizes are digits of numbers whose products are short, or not.
var sizes = []int{1, 3, 20, 33, 49, 50, 51, 99, 100}

// forRandom calls a function with many kinds of random expressions.
func forRandom(rounds int, function func(random *rand.Rand, n, digits int)) {
	random := rand.New(rand.NewSource(1))
	for range rounds {
		for _, n := range []int{0, 1, 2, 5, api.MaxDims} {
			for _, digits := range sizes {
				function(random, n, digits)
			}
		}
	}
}

func TestP3_1Check(t *testing.T) {
	for _, a := range shorts() {
		for _, l := range []api.Linear{line(a), line(a, "1"), line("1", a), line("0", "2", a, "3"), line(a, slices.Repeat([]api.Rat{a}, api.MaxDims)...)} {
			want(t, "Check of "+short(l), Check(l), api.OK, 0, 0)
		}
	}
	for a, e := range numberErrors() {
		for _, l := range []api.Linear{line(a), line(a, "1"), line("1", a), line("0", "2", a, "3"), line("x", "2", a)} {
			want(t, "Check of "+short(l), Check(l), e, 0, 0)
		}
	}
	for _, c := range invalid() {
		want(t, "Check of "+short(c.l), Check(c.l), c.e, 0, 0)
	}
}

// TestFirstErrors checks that the errors of expressions come before all others, from left to right (P3.1 and P3.2).
func TestFirstErrors(t *testing.T) {
	none := api.Linear{}
	good := line("1", "1", "2")
	for _, c := range invalid() {
		what := " of " + short(c.l)
		l, e := Add(c.l, line("x"))
		want(t, "Add"+what, l, none, e, c.e)
		l, e = Add(good, c.l)
		want(t, "Add"+what+" on the right", l, none, e, c.e)
		l, e = Scale(c.l, "01")
		want(t, "Scale"+what, l, none, e, c.e)
		value, e := Eval(c.l, []api.Rat{"x", "", "", ""})
		want(t, "Eval"+what, value, "", e, c.e)
		l, e = Substitute(c.l, -1, line("x"))
		want(t, "Substitute"+what, l, none, e, c.e)
		l, e = Substitute(good, 7, c.l)
		want(t, "Substitute by"+what, l, none, e, c.e)
		l, e = Rename(c.l, nil, -1)
		want(t, "Rename"+what, l, none, e, c.e)
		list, constant, factor, e := Integral(c.l)
		want(t, "Integral"+what, []any{len(list), constant, factor}, []any{0, "", ""}, e, c.e)
		mask, e := Vars(c.l)
		want(t, "Vars"+what, mask, 0, e, c.e)
	}
	for i, a := range invalid() {
		b := invalid()[(i+1)%len(invalid())]
		l, e := Add(a.l, b.l)
		want(t, "Add of two", l, none, e, a.e)
		l, e = Substitute(a.l, 0, b.l)
		want(t, "Substitute of two", l, none, e, a.e)
	}
}

func TestP3_1Constant(t *testing.T) {
	for n := range api.MaxDims + 1 {
		for _, c := range shorts() {
			l, e := Constant(n, c)
			want(t, "Constant", l, line(c, slices.Repeat([]api.Rat{"0"}, n)...), e, api.OK)
		}
	}
	for c, f := range numberErrors() {
		for _, n := range []int{0, 3, api.MaxDims} {
			l, e := Constant(n, c)
			want(t, "Constant "+short(c), l, api.Linear{}, e, f)
		}
		for _, n := range []int{-1, api.MaxDims + 1, math.MinInt, math.MaxInt} {
			l, e := Constant(n, c)
			want(t, "Constant "+short(c), l, api.Linear{}, e, api.ErrRange)
		}
	}
	l, e := Constant(api.MaxDims+1, "1")
	want(t, "Constant", l, api.Linear{}, e, api.ErrRange)
}

func TestP3_1Variable(t *testing.T) {
	for n := range api.MaxDims + 1 {
		for i := range n {
			wanted := line("0", slices.Repeat([]api.Rat{"0"}, n)...)
			wanted.Coef[i] = "1"
			l, e := Variable(n, i)
			want(t, fmt.Sprintf("Variable %d of %d", i, n), l, wanted, e, api.OK)
		}
		for _, i := range []int{-1, n, n + 1, math.MinInt, math.MaxInt} {
			l, e := Variable(n, i)
			want(t, fmt.Sprintf("Variable %d of %d", i, n), l, api.Linear{}, e, api.ErrNone)
		}
	}
	for _, n := range []int{-1, api.MaxDims + 1, math.MinInt, math.MaxInt} {
		for _, i := range []int{-1, 0, 5, n, n - 1} {
			l, e := Variable(n, i)
			want(t, fmt.Sprintf("Variable %d of %d", i, n), l, api.Linear{}, e, api.ErrRange)
		}
	}
}

func TestP3_1Add(t *testing.T) {
	l, e := Add(line("4", "1/2", "-3"), line("1/3", "1", "0"))
	want(t, "Add", l, line("13/3", "3/2", "-3"), e, api.OK)
	l, e = Add(line(longest()), line("1"))
	want(t, "Add", l, api.Linear{}, e, api.ErrLarge)
	l, e = Add(line(longest(), "1"), line("-1", "-1"))
	want(t, "Add", l, line(longest()[:api.MaxDigits-1]+"8", "0"), e, api.OK)
	l, e = Add(line("0", "1/"+longest()), line("0", "1/7"))
	want(t, "Add", l, api.Linear{}, e, api.ErrLarge)
	for _, c := range [][2]api.Linear{{line("1"), line("1", "1")}, {line("1", "1"), line("1")}, {line("1", "1", "1"), line(longest(), longest())}} {
		l, e := Add(c[0], c[1])
		want(t, "Add", l, api.Linear{}, e, api.ErrMismatch)
	}
	forRandom(4, func(random *rand.Rand, n, digits int) {
		a, b := randomLinear(random, n, digits), randomLinear(random, n, digits)
		var coef []*big.Rat
		for i := range n {
			coef = append(coef, new(big.Rat).Add(toBig(a.Coef[i]), toBig(b.Coef[i])))
		}
		wanted, f := fitting(coef, new(big.Rat).Add(toBig(a.Const), toBig(b.Const)))
		l, e := Add(a, b)
		want(t, "Add of "+short(a)+" and "+short(b), l, wanted, e, f)
	})
}

func TestP3_1Scale(t *testing.T) {
	l, e := Scale(line("4", "1/2", "-3"), "-2/3")
	want(t, "Scale", l, line("-8/3", "-1/3", "2"), e, api.OK)
	l, e = Scale(line(longest(), "1/2"), "0")
	want(t, "Scale", l, line("0", "0"), e, api.OK)
	l, e = Scale(line("1", longest()), "2")
	want(t, "Scale", l, api.Linear{}, e, api.ErrLarge)
	l, e = Scale(line("1", longest()), "1/"+longest())
	want(t, "Scale", l, line("1/"+longest(), "1"), e, api.OK)
	for c, f := range numberErrors() {
		for _, l := range []api.Linear{line("0"), line("1", longest())} {
			l, e := Scale(l, c)
			want(t, "Scale by "+short(c), l, api.Linear{}, e, f)
		}
	}
	forRandom(4, func(random *rand.Rand, n, digits int) {
		l, c := randomLinear(random, n, digits), randomRat(random, digits)
		var coef []*big.Rat
		for _, x := range l.Coef {
			coef = append(coef, new(big.Rat).Mul(toBig(x), toBig(c)))
		}
		wanted, f := fitting(coef, new(big.Rat).Mul(toBig(l.Const), toBig(c)))
		got, e := Scale(l, c)
		want(t, "Scale of "+short(l)+" by "+short(c), got, wanted, e, f)
	})
}

// value is the reference for Eval.
func value(l api.Linear, point []api.Rat) *big.Rat {
	sum := toBig(l.Const)
	for i, x := range point {
		sum.Add(sum, new(big.Rat).Mul(toBig(l.Coef[i]), toBig(x)))
	}
	return sum
}

func checkEval(t *testing.T, l api.Linear, point []api.Rat) {
	t.Helper()
	sum := value(l, point)
	wanted, f := fitting(nil, sum)
	got, e := Eval(l, point)
	want(t, "Eval of "+short(l)+" at "+short(point), got, wanted.Const, e, f)
}

func TestP3_2Eval(t *testing.T) {
	x, e := Eval(line("4", "1/2", "-3"), []api.Rat{"2", "1/3"})
	want(t, "Eval", x, "4", e, api.OK)
	x, e = Eval(line("-7/3"), nil)
	want(t, "Eval", x, "-7/3", e, api.OK)
	x, e = Eval(line("1", longest()), []api.Rat{"1"})
	want(t, "Eval", x, "", e, api.ErrLarge)
	x, e = Eval(line("-1", longest()), []api.Rat{"1"})
	want(t, "Eval", x, longest()[:api.MaxDigits-1]+"8", e, api.OK)
	for _, point := range [][]api.Rat{nil, {"1"}, {"1", "2", "3"}, {"x"}, {"x", "y", "z"}} {
		x, e := Eval(line("1", "1", "1"), point)
		want(t, "Eval at "+short(point), x, "", e, api.ErrShape)
	}
	for a, f := range numberErrors() {
		for _, point := range [][]api.Rat{{a, "1", "1"}, {"1", "1", a}, {"1", a, "x"}, {"1", a, longest() + "0"}} {
			x, e := Eval(line("1", "0", "1", longest()), point)
			want(t, "Eval at "+short(point), x, "", e, f)
		}
	}
	forRandom(4, func(random *rand.Rand, n, digits int) {
		checkEval(t, randomLinear(random, n, digits), randomPoint(random, n, digits))
	})
}

// denominators are numbers of so many digits, no two of which have a common divisor.
func denominators(n, digits int) []api.Rat {
	var list []api.Rat
	product := big.NewInt(1)
	candidate := new(big.Int).Exp(big.NewInt(10), big.NewInt(int64(digits)), nil)
	for len(list) < n {
		candidate.Sub(candidate, big.NewInt(1))
		if new(big.Int).GCD(nil, nil, product, candidate).Cmp(big.NewInt(1)) == 0 {
			product.Mul(product, candidate)
			list = append(list, api.Rat(candidate.String()))
		}
	}
	return list
}

// quotient returns the canonical notation of a quotient of integers.
func quotient(num, den api.Rat) api.Rat {
	return api.Rat(new(big.Rat).Quo(toBig(num), toBig(den)).RatString())
}

// TestP3_2EvalCancels has values that are short although the sums on the way to them are not, in different orders.
func TestP3_2EvalCancels(t *testing.T) {
	half := api.MaxDims / 2
	dens := denominators(api.MaxDims+half, api.MaxDigits)
	random := rand.New(rand.NewSource(3))
	for _, constant := range []api.Rat{"0", "5", "-1/3", longest(), longest() + "/2", "1/" + dens[api.MaxDims]} {
		l, point := api.Linear{Const: constant}, []api.Rat{}
		for i := range half {
			l.Coef = append(l.Coef, "1/"+dens[2*i])
			point = append(point, "1/"+dens[2*i+1])
		}
		for i := range half {
			l.Coef = append(l.Coef, "-1/"+dens[2*i])
			point = append(point, "1/"+dens[2*i+1])
		}
		got, e := Eval(l, point)
		want(t, "Eval of a sum that cancels", got, constant, e, api.OK)
		for range 5 {
			random.Shuffle(len(point), func(i, j int) {
				l.Coef[i], l.Coef[j] = l.Coef[j], l.Coef[i]
				point[i], point[j] = point[j], point[i]
			})
			got, e := Eval(l, point)
			want(t, "Eval of a sum that cancels in another order", got, constant, e, api.OK)
		}
		l.Coef[0] = "1/" + dens[api.MaxDims+1]
		checkEval(t, l, point)
	}
	l, point := api.Linear{Const: longest()}, []api.Rat{}
	for i := range api.MaxDims {
		l.Coef = append(l.Coef, quotient("3"+longest()[1:], dens[i]))
		point = append(point, quotient("-7"+longest()[1:], dens[(i+half)%len(dens)]))
	}
	checkEval(t, l, point)
	checkEval(t, l, slices.Repeat([]api.Rat{"1/" + longest()}, api.MaxDims))
}

func TestP3_2Substitute(t *testing.T) {
	l, m := line("4", "1/2", "-3"), line("1/3", "1", "0")
	got, e := Substitute(l, 1, m)
	want(t, "Substitute", got, line("3", "-5/2", "0"), e, api.OK)
	got, e = Substitute(line("0", "2"), 0, line("1", "3"))
	want(t, "Substitute of a variable by itself", got, line("2", "6"), e, api.OK)
	got, e = Substitute(line("5", "0", "1"), 0, line(longest(), longest(), longest()))
	want(t, "Substitute of a variable that does not occur", got, line("5", "0", "1"), e, api.OK)
	got, e = Substitute(line(longest(), "1"), 0, line("1", "1"))
	want(t, "Substitute", got, api.Linear{}, e, api.ErrLarge)
	for _, i := range []int{-1, 2, 3, math.MinInt, math.MaxInt} {
		got, e := Substitute(l, i, m)
		want(t, "Substitute", got, api.Linear{}, e, api.ErrNone)
		got, e = Substitute(l, i, line("1", "1"))
		want(t, "Substitute", got, api.Linear{}, e, api.ErrMismatch)
	}
	got, e = Substitute(line("1"), 0, line("2"))
	want(t, "Substitute", got, api.Linear{}, e, api.ErrNone)
	forRandom(3, func(random *rand.Rand, n, digits int) {
		l, by := randomLinear(random, n, digits), randomLinear(random, n, digits)
		for i := range n {
			coef := bigs(l.Coef)
			factor := toBig(l.Coef[i])
			coef[i].SetInt64(0)
			for j, x := range by.Coef {
				coef[j].Add(coef[j], new(big.Rat).Mul(factor, toBig(x)))
			}
			wanted, f := fitting(coef, new(big.Rat).Add(toBig(l.Const), new(big.Rat).Mul(factor, toBig(by.Const))))
			got, e := Substitute(l, i, by)
			want(t, "Substitute", got, wanted, e, f)
		}
	})
}

func TestP3_2Rename(t *testing.T) {
	m := line("4", "-5/2")
	got, e := Rename(line("4", "1/2", "-3"), []int{1, 0}, 2)
	want(t, "Rename", got, line("4", "-3", "1/2"), e, api.OK)
	got, e = Rename(line("4", "1/2", "-3"), []int{0, 0}, 1)
	want(t, "Rename", got, m, e, api.OK)
	got, e = Rename(m, []int{2}, 4)
	want(t, "Rename", got, line("4", "0", "0", "-5/2", "0"), e, api.OK)
	got, e = Rename(line("7"), nil, 0)
	want(t, "Rename", got, line("7"), e, api.OK)
	got, e = Rename(line("7"), []int{}, api.MaxDims)
	want(t, "Rename", got, line("7", slices.Repeat([]api.Rat{"0"}, api.MaxDims)...), e, api.OK)
	got, e = Rename(line("0", longest(), "1"), []int{1, 1}, 2)
	want(t, "Rename", got, api.Linear{}, e, api.ErrLarge)
	for _, c := range []struct {
		to []int
		n  int
		e  api.Errno
	}{
		{[]int{0}, -1, api.ErrRange}, {nil, -1, api.ErrRange}, {[]int{0}, api.MaxDims + 1, api.ErrRange}, {[]int{5, 5}, math.MaxInt, api.ErrRange},
		{nil, 3, api.ErrShape}, {[]int{0, 1}, 3, api.ErrShape}, {[]int{-1, 7}, 0, api.ErrShape},
		{[]int{0}, 0, api.ErrNone}, {[]int{-1}, 3, api.ErrNone}, {[]int{3}, 3, api.ErrNone}, {[]int{math.MinInt}, 3, api.ErrNone}, {[]int{api.MaxDims}, api.MaxDims, api.ErrNone},
	} {
		got, e := Rename(m, c.to, c.n)
		want(t, fmt.Sprint("Rename by ", c.to, " over ", c.n), got, api.Linear{}, e, c.e)
	}
	got, e = Rename(line("1", "1", "0"), []int{0, 2}, 2)
	want(t, "Rename of a variable that does not occur", got, api.Linear{}, e, api.ErrNone)
	forRandom(4, func(random *rand.Rand, n, digits int) {
		size := 1 + random.Intn(api.MaxDims)
		l := randomLinear(random, n, digits)
		to, coef := []int{}, []*big.Rat{}
		for range size {
			coef = append(coef, new(big.Rat))
		}
		for _, x := range l.Coef {
			i := random.Intn(size)
			to = append(to, i)
			coef[i].Add(coef[i], toBig(x))
		}
		wanted, f := fitting(coef, toBig(l.Const))
		got, e := Rename(l, to, size)
		want(t, "Rename", got, wanted, e, f)
	})
}

// TestP3_2RenameCancels adds up variables to a short number, over sums that are not short.
func TestP3_2RenameCancels(t *testing.T) {
	l := api.Linear{Const: "1"}
	for _, den := range denominators(api.MaxDims/2, api.MaxDigits) {
		l.Coef = append(l.Coef, quotient("7"+longest()[1:], den))
	}
	for i := range api.MaxDims / 2 {
		l.Coef = append(l.Coef, quotient(l.Coef[i], "-1"))
	}
	got, e := Rename(l, make([]int, api.MaxDims), 1)
	want(t, "Rename", got, line("1", "0"), e, api.OK)
	l.Coef[0] = "0"
	got, e = Rename(l, make([]int, api.MaxDims), 1)
	want(t, "Rename", got, line("1", l.Coef[api.MaxDims/2]), e, api.OK)
}

// integral is the reference for Integral.
func integral(l api.Linear) ([]api.Int, api.Int, api.Int, api.Errno) {
	factor := big.NewInt(1)
	for _, x := range bigs(append(slices.Clone(l.Coef), l.Const)) {
		common := new(big.Int).GCD(nil, nil, factor, x.Denom())
		factor.Mul(factor, new(big.Int).Quo(x.Denom(), common))
	}
	list, fits := []api.Int{}, isShortBig(factor)
	for _, x := range bigs(append(slices.Clone(l.Coef), l.Const)) {
		x.Mul(x, new(big.Rat).SetInt(factor))
		fits = fits && isShortBig(x.Num())
		list = append(list, api.Int(x.Num().String()))
	}
	if !fits {
		return nil, "", "", api.ErrLarge
	}
	return list[:len(l.Coef)], list[len(l.Coef)], api.Int(factor.String()), api.OK
}

func TestP3_2Integral(t *testing.T) {
	power := api.Int("1" + repeat("0", api.MaxDigits-1))
	for _, c := range []struct {
		l      api.Linear
		list   []api.Int
		number api.Int
		factor api.Int
		e      api.Errno
	}{
		{line("4", "1/2", "-3"), []api.Int{"1", "-6"}, "8", "2", api.OK},
		{line("0"), nil, "0", "1", api.OK},
		{line("-1/6", "3/4", "0"), []api.Int{"9", "0"}, "-2", "12", api.OK},
		{line("4", "2", "6"), []api.Int{"2", "6"}, "4", "1", api.OK},
		{line("1/" + api.Rat(power)), nil, "1", power, api.OK},
		{line("1/3", "1/"+api.Rat(power)), []api.Int{"3"}, power, "3" + power[1:], api.OK},
		{line("1/2", "1/"+api.Rat(power)), []api.Int{"1"}, "5" + power[2:], power, api.OK},
		{line("1/11", "1/"+api.Rat(power)), nil, "", "", api.ErrLarge},
		{line("1/2", longest()), nil, "", "", api.ErrLarge},
		{line(longest(), "1/10"), nil, "", "", api.ErrLarge},
		{line("0", "1/"+longest(), "1/7"), nil, "", "", api.ErrLarge},
	} {
		list, number, factor, e := Integral(c.l)
		want(t, "Integral of "+short(c.l), []any{list, number, factor}, []any{c.list, c.number, c.factor}, e, c.e)
	}
	forRandom(4, func(random *rand.Rand, n, digits int) {
		l := randomLinear(random, n, max(1, digits/10))
		wanted, constant, times, f := integral(l)
		list, number, factor, e := Integral(l)
		want(t, "Integral of "+short(l), []any{list, number, factor}, []any{wanted, constant, times}, e, f)
	})
}

func TestP3_2Vars(t *testing.T) {
	for _, c := range []struct {
		l    api.Linear
		mask int
	}{
		{line("5"), 0},
		{line("5", "0", "0"), 0},
		{line("0", "1/2", "-3"), 3},
		{line("0", "0", "-1/7", "0", longest()), 10},
		{line("0", slices.Repeat([]api.Rat{"1"}, api.MaxDims)...), 1<<api.MaxDims - 1},
		{line("0", append(slices.Repeat([]api.Rat{"0"}, api.MaxDims-1), "-1")...), 1 << (api.MaxDims - 1)},
	} {
		mask, e := Vars(c.l)
		want(t, "Vars of "+short(c.l), mask, c.mask, e, api.OK)
	}
}

// must returns a value without an error.
func must[T any](x T, e api.Errno) T {
	if e != api.OK {
		panic(fmt.Sprint("error ", e))
	}
	return x
}

func TestP3_3Values(t *testing.T) {
	random := rand.New(rand.NewSource(5))
	for range 200 {
		n := 1 + random.Intn(6)
		a, b, point, c := randomLinear(random, n, 4), randomLinear(random, n, 4), randomPoint(random, n, 4), randomRat(random, 4)
		at := func(l api.Linear) *big.Rat { return toBig(must(Eval(l, point))) }
		sum := new(big.Rat).Add(at(a), at(b))
		if at(must(Add(a, b))).Cmp(sum) != 0 {
			t.Errorf("the value of the sum of %q and %q is not %s", a, b, sum)
		}
		if at(must(Scale(a, c))).Cmp(new(big.Rat).Mul(at(a), toBig(c))) != 0 {
			t.Errorf("the value of %q times %q is wrong", c, a)
		}
		i := random.Intn(n)
		moved := slices.Clone(point)
		moved[i] = must(Eval(b, point))
		if must(Eval(must(Substitute(a, i, b)), point)) != must(Eval(a, moved)) {
			t.Errorf("the value of %q with %q for %d is wrong", a, b, i)
		}
		x := must(Constant(n, c))
		y := must(Variable(n, i))
		if must(Eval(x, point)) != c || must(Eval(y, point)) != point[i] {
			t.Errorf("the value of a constant or a variable is wrong")
		}
		checkPermutation(t, a, random.Perm(n))
	}
}

func checkPermutation(t *testing.T, l api.Linear, to []int) {
	t.Helper()
	inverse := make([]int, len(to))
	for i, j := range to {
		inverse[j] = i
	}
	back := must(Rename(must(Rename(l, to, len(to))), inverse, len(to)))
	want(t, "Rename back", back, l, 0, 0)
}

func TestP3_3Integral(t *testing.T) {
	random := rand.New(rand.NewSource(6))
	for range 100 {
		l := randomLinear(random, 3, 1)
		list, constant, factor, e := Integral(l)
		multiple := line(api.Rat(constant))
		for _, x := range list {
			multiple.Coef = append(multiple.Coef, api.Rat(x))
		}
		want(t, "Scale by the factor of Integral", must(Scale(l, api.Rat(factor))), multiple, e, api.OK)
		for d := range toBig(api.Rat(factor)).Num().Int64() - 1 {
			smaller := must(Scale(l, api.Rat(fmt.Sprint(d+1))))
			if !slices.ContainsFunc(append(smaller.Coef, smaller.Const), func(x api.Rat) bool { return strings.Contains(string(x), "/") }) {
				t.Errorf("Integral of %q: the factor %s is not the least one", l, factor)
			}
		}
	}
}

// TestMemory checks that arguments are not changed, and that results do not share their memory.
func TestMemory(t *testing.T) {
	l, by, point, to := line("4", "1/2", "-3"), line("1", "2", "3"), []api.Rat{"5", "6"}, []int{1, 1}
	l.Coef, by.Coef = append(l.Coef, "x")[:2], append(by.Coef, "x")[:2]
	before := fmt.Sprint(l, by, point, to, l.Coef[:3], by.Coef[:3])
	results := []api.Linear{must(Add(l, by)), must(Scale(l, "1")), must(Substitute(l, 0, by)), must(Rename(l, to, 2)), must(Rename(l, []int{0, 1}, 2))}
	for _, result := range results {
		for i := range result.Coef {
			result.Coef[i] = "0"
		}
		_ = append(result.Coef, "0")
	}
	must(Eval(l, point))
	must(Vars(l))
	list, _, _, _ := Integral(l)
	list[0] = "0"
	if after := fmt.Sprint(l, by, point, to, l.Coef[:3], by.Coef[:3]); after != before {
		t.Errorf("arguments were changed from %s to %s", before, after)
	}
}
