package simplex

import (
	"fmt"
	"math/big"
	"math/rand"
	"slices"
	"strings"
	"testing"

	"surveyor/api"
)

// This file has the references that results are compared with, and arguments.

func repeat(digit string, n int) string { return strings.Repeat(digit, n) }

// longest has as many digits as a number of a program may have.
func longest() api.Int { return api.Int(repeat("9", api.MaxDigits)) }

func short(x any) string {
	text := fmt.Sprintf("%q", x)
	if len(text) > 400 {
		return fmt.Sprintf("%s.. (%d bytes)", text[:400], len(text))
	}
	return text
}

// want compares results, where nil and empty slices are the same.
func want(t *testing.T, what string, got, wanted any, e, f api.Errno) {
	t.Helper()
	if fmt.Sprintf("%q", got) != fmt.Sprintf("%q", wanted) || e != f {
		t.Errorf("%s: got %s and %d, want %s and %d", what, short(got), e, short(wanted), f)
	}
}

func must[T any](x T, e api.Errno) T {
	if e != api.OK {
		panic(fmt.Sprint("error ", e))
	}
	return x
}

func ge(constant api.Int, coef ...api.Int) api.Fact {
	return api.Fact{Op: api.FactGe, Coef: coef, Const: constant, Mod: "0"}
}

func eq(constant api.Int, coef ...api.Int) api.Fact {
	return api.Fact{Op: api.FactEq, Coef: coef, Const: constant, Mod: "0"}
}

func list(facts ...api.Fact) []api.Fact { return facts }

func lin(constant api.Rat, coef ...api.Rat) api.Linear {
	return api.Linear{Coef: coef, Const: constant}
}

// triangle has the points with x >= 0, y >= 0 and x + 2 y <= 4.
func triangle() []api.Fact { return list(ge("0", "1", "0"), ge("0", "0", "1"), ge("4", "-1", "-2")) }

func toRat(a string) *big.Rat {
	value, ok := new(big.Rat).SetString(a)
	if !ok {
		panic("no number: " + a)
	}
	return value
}

func rats[T ~string](list []T) []*big.Rat {
	var values []*big.Rat
	for _, x := range list {
		values = append(values, toRat(string(x)))
	}
	return values
}

func toText(x *big.Rat) api.Rat {
	if x == nil {
		return ""
	}
	return api.Rat(x.RatString())
}

// dot returns the sum of the products.
func dot(a, b []*big.Rat) *big.Rat {
	sum := new(big.Rat)
	for i, x := range a {
		sum.Add(sum, new(big.Rat).Mul(x, b[i]))
	}
	return sum
}

// isGood reports whether a number is as a constraint requires of the value of its expression.
func isGood(f api.Fact, x *big.Rat) bool {
	return x.Sign() == 0 || x.Sign() > 0 && f.Op == api.FactGe
}

func isPoint(l []api.Fact, point []api.Rat) bool {
	for _, f := range l {
		value := dot(rats(f.Coef), rats(point))
		if !isGood(f, value.Add(value, toRat(string(f.Const)))) {
			return false
		}
	}
	return true
}

func isDirection(l []api.Fact, ray []api.Rat) bool {
	for _, f := range l {
		if !isGood(f, dot(rats(f.Coef), rats(ray))) {
			return false
		}
	}
	return true
}

// addsUp reports whether c and the multiples of the constraints are equal to a value everywhere, with multipliers that are allowed.
func addsUp(c api.Linear, l []api.Fact, mult []api.Rat, value api.Rat) bool {
	sum := rats(append(slices.Clone(c.Coef), c.Const))
	for i, f := range l {
		y := toRat(string(mult[i]))
		if y.Sign() < 0 && f.Op == api.FactGe {
			return false
		}
		for k, x := range rats(append(slices.Clone(f.Coef), f.Const)) {
			sum[k].Add(sum[k], x.Mul(x, y))
		}
	}
	n := len(c.Coef)
	return !slices.ContainsFunc(sum[:n], func(x *big.Rat) bool { return x.Sign() != 0 }) && sum[n].Cmp(toRat(string(value))) == 0
}

// isRightResult is the reference for Verify, where a result has the form of one.
func isRightResult(c api.Linear, l []api.Fact, o api.Optimum) bool {
	switch o.Verdict {
	case api.ProgramOptimal:
		value := dot(rats(c.Coef), rats(o.Point))
		value.Add(value, toRat(string(c.Const)))
		return len(o.Ray) == 0 && isPoint(l, o.Point) && value.Cmp(toRat(string(o.Value))) == 0 && addsUp(c, l, o.Mult, o.Value)
	case api.ProgramUnbounded:
		return o.Value == "" && len(o.Mult) == 0 && isPoint(l, o.Point) && isDirection(l, o.Ray) && dot(rats(c.Coef), rats(o.Ray)).Sign() > 0
	}
	zero := lin("0", slices.Repeat([]api.Rat{"0"}, len(c.Coef))...)
	return o.Value == "" && len(o.Point) == 0 && len(o.Ray) == 0 && addsUp(zero, l, o.Mult, "-1")
}

// eliminated returns inequalities (coefficients, and the constant behind them, of what is at least 0) that hold exactly where variable i has a value with which the given ones hold.
func eliminated(rows [][]*big.Rat, i int) [][]*big.Rat {
	var result, lower, upper [][]*big.Rat
	for _, row := range rows {
		switch row[i].Sign() {
		case 0:
			result = append(result, row)
		case 1:
			lower = append(lower, row)
		default:
			upper = append(upper, row)
		}
	}
	for _, a := range lower {
		for _, b := range upper {
			var row []*big.Rat
			for k := range a {
				x := new(big.Rat).Quo(a[k], a[i])
				row = append(row, x.Sub(x, new(big.Rat).Quo(b[k], b[i])))
			}
			result = append(result, row)
		}
	}
	return distinct(result)
}

// distinct leaves out rows that are true, and those that others are, up to a factor.
func distinct(rows [][]*big.Rat) [][]*big.Rat {
	seen := map[string]bool{}
	var result [][]*big.Rat
	for _, row := range rows {
		first := slices.IndexFunc(row, func(x *big.Rat) bool { return x.Sign() != 0 })
		if first < 0 || first == len(row)-1 && row[first].Sign() > 0 {
			continue
		}
		unit, text := new(big.Rat).Abs(row[first]), ""
		for _, x := range row {
			text += new(big.Rat).Quo(x, unit).RatString() + " "
		}
		if !seen[text] {
			seen[text] = true
			result = append(result, row)
		}
	}
	return result
}

// bounds is the reference for Bounds, by the elimination of all variables (Fourier and Motzkin); false if there is no feasible point.
func bounds(c api.Linear, l []api.Fact) (least, greatest *big.Rat, ok bool) {
	n := len(c.Coef)
	var rows [][]*big.Rat
	add := func(coef []*big.Rat, z, constant *big.Rat, both bool) {
		row := append(slices.Clone(coef), z, constant)
		rows = append(rows, row)
		if both {
			var opposite []*big.Rat
			for _, x := range row {
				opposite = append(opposite, new(big.Rat).Neg(x))
			}
			rows = append(rows, opposite)
		}
	}
	add(rats(c.Coef), big.NewRat(-1, 1), toRat(string(c.Const)), true)
	for _, f := range l {
		add(rats(f.Coef), new(big.Rat), toRat(string(f.Const)), f.Op == api.FactEq)
	}
	rows = distinct(rows)
	for i := range n {
		rows = eliminated(rows, i)
	}
	for _, row := range rows {
		z, constant := row[n], row[n+1]
		if z.Sign() == 0 {
			return nil, nil, false // what is not true is left of rows without z
		}
		bound := new(big.Rat).Quo(constant, z)
		bound.Neg(bound)
		if z.Sign() > 0 && (least == nil || bound.Cmp(least) > 0) {
			least = bound
		}
		if z.Sign() < 0 && (greatest == nil || bound.Cmp(greatest) < 0) {
			greatest = bound
		}
	}
	return least, greatest, least == nil || greatest == nil || least.Cmp(greatest) <= 0
}

// implied is the reference for Implied.
func implied(l []api.Fact, f api.Fact) bool {
	c := lin(api.Rat(f.Const))
	for _, x := range f.Coef {
		c.Coef = append(c.Coef, api.Rat(x))
	}
	least, greatest, ok := bounds(c, l)
	if !ok {
		return true
	}
	return least != nil && least.Sign() >= 0 && (f.Op == api.FactGe || greatest != nil && greatest.Sign() <= 0)
}

// essential is the reference for Essential.
func essential(l []api.Fact) []int {
	var rest []int
	for i := range l {
		rest = append(rest, i)
	}
	for i := len(l) - 1; i >= 0; i-- {
		var others []api.Fact
		for _, k := range rest {
			if k != i {
				others = append(others, l[k])
			}
		}
		if implied(others, l[i]) {
			rest = slices.DeleteFunc(rest, func(k int) bool { return k == i })
		}
	}
	return rest
}

func randomInt(random *rand.Rand, digits int) api.Int {
	limit := new(big.Int).Exp(big.NewInt(10), big.NewInt(int64(digits)), nil)
	value := limit.Rand(random, limit)
	if random.Intn(2) == 0 {
		value.Neg(value)
	}
	return api.Int(value.String())
}

// smallInt returns a number from -3 to 3, often 0.
func smallInt(random *rand.Rand) api.Int {
	return api.Int(fmt.Sprint((random.Intn(7) - 3) * min(1, random.Intn(3))))
}

// randomProgram returns a small program; many of them are degenerate, or without feasible points.
func randomProgram(random *rand.Rand) (api.Linear, []api.Fact) {
	n := random.Intn(4)
	c := api.Linear{Const: api.Rat(smallInt(random))}
	for range n {
		x := big.NewRat(int64(random.Intn(9)-4), int64(1+random.Intn(3)))
		c.Coef = append(c.Coef, api.Rat(x.RatString()))
	}
	var l []api.Fact
	equations, shift := random.Intn(3), random.Intn(6)
	for range random.Intn(8) {
		f := ge(api.Int(fmt.Sprint(random.Intn(7) - 3 + shift)))
		if random.Intn(3) == 0 {
			f.Const = "0"
		}
		if random.Intn(4) < equations {
			f.Op = api.FactEq
		}
		for range n {
			f.Coef = append(f.Coef, smallInt(random))
		}
		if len(l) > 0 && random.Intn(6) == 0 {
			f = l[random.Intn(len(l))]
		}
		l = append(l, f)
	}
	return c, l
}

// longProgram returns a program of m inequalities over n variables with numbers of so many digits; its constants are not negative if it is to be feasible.
func longProgram(random *rand.Rand, n, m, digits int, feasible bool) (api.Linear, []api.Fact) {
	c := api.Linear{Const: api.Rat(randomInt(random, digits))}
	for range n {
		x := new(big.Rat).SetFrac(toRat(string(randomInt(random, digits))).Num(), big.NewInt(1))
		if digits > 1 && random.Intn(2) == 0 {
			den := new(big.Int).Abs(toRat(string(randomInt(random, digits-1))).Num())
			x.SetFrac(x.Num(), den.Add(den, big.NewInt(1)))
		}
		c.Coef = append(c.Coef, api.Rat(x.RatString()))
	}
	var l []api.Fact
	for range m {
		f := ge(randomInt(random, digits))
		if feasible {
			f.Const = api.Int(strings.TrimPrefix(string(f.Const), "-"))
		}
		for range n {
			f.Coef = append(f.Coef, randomInt(random, digits))
		}
		l = append(l, f)
	}
	return c, l
}

// badNumbers are the numbers that no constraint has, with their errors.
func badNumbers() map[api.Int]api.Errno {
	long := api.Int(repeat("7", api.MaxLong))
	return map[api.Int]api.Errno{
		"": api.ErrForm, "-": api.ErrForm, "-0": api.ErrForm, "01": api.ErrForm, "+1": api.ErrForm, "1/2": api.ErrForm, "x": api.ErrForm, "0" + long: api.ErrForm,
		longest() + "0": api.ErrLarge, "-" + longest() + "0": api.ErrLarge, long: api.ErrLarge, long + "0": api.ErrLarge,
	}
}

type badConstraint struct {
	f api.Fact
	e api.Errno
}

// badConstraints are constraints over two variables with errors.
func badConstraints() []badConstraint {
	large := longest() + "0"
	bad := []badConstraint{
		{api.Fact{}, api.ErrShape},
		{api.Fact{Op: api.FactMod, Coef: []api.Int{"1", "1"}, Const: "0", Mod: "2"}, api.ErrArg},
		{api.Fact{Op: -1, Const: "x"}, api.ErrArg}, {api.Fact{Op: 3, Const: "x"}, api.ErrArg},
		{ge("x", "x"), api.ErrShape}, {eq("x", "1", "x", "2"), api.ErrShape}, {ge("0"), api.ErrShape},
		{ge("0", "x", large), api.ErrForm}, {ge("0", large, "x"), api.ErrLarge}, {ge("x", "1", large), api.ErrLarge}, {ge(large, "1", "x"), api.ErrForm},
		{api.Fact{Coef: []api.Int{"1", "1"}, Const: "x", Mod: "2"}, api.ErrForm},
		{api.Fact{Coef: []api.Int{"1", "1"}, Const: large, Mod: "2"}, api.ErrLarge},
		{api.Fact{Coef: []api.Int{"1", "1"}, Const: "0", Mod: "2"}, api.ErrRange}, {api.Fact{Coef: []api.Int{"1", "1"}, Const: "0", Mod: ""}, api.ErrRange}, {api.Fact{Op: api.FactEq, Coef: []api.Int{"1", "1"}, Const: "0", Mod: "00"}, api.ErrRange},
		{api.Fact{Op: api.FactEq, Coef: []api.Int{"1", "1"}, Const: "0", Mod: large}, api.ErrRange},
	}
	for x, e := range badNumbers() {
		bad = append(bad, badConstraint{ge(x, "1", "1"), e}, badConstraint{eq("1", "1", x), e}, badConstraint{ge("1", x, "1"), e})
	}
	return bad
}

type badProgram struct {
	c api.Linear
	l []api.Fact
	e api.Errno
}

// badPrograms are programs with errors.
func badPrograms() []badProgram {
	good, many := lin("0", "1", "1"), slices.Repeat(list(ge("0", "1", "1")), api.MaxFacts+1)
	programs := []badProgram{
		{api.Linear{}, many, api.ErrForm}, {lin("0", "x", "1"), list(api.Fact{Op: 9}), api.ErrForm}, {lin("2/4", "1", "1"), nil, api.ErrForm}, {lin("0", "1", api.Rat(longest()+"0")), many, api.ErrLarge}, {lin("0", "1", "1/"+api.Rat(longest()+"0")), nil, api.ErrLarge},
		{lin("x", slices.Repeat([]api.Rat{"1"}, api.MaxDims+1)...), many, api.ErrMany}, {good, many, api.ErrMany}, {good, make([]api.Fact, api.MaxFacts+1), api.ErrMany},
		{good, list(ge("0", "1", "1"), ge("1/2", "1", "1"), api.Fact{Op: 9}), api.ErrForm},
	}
	for _, bad := range badConstraints() {
		programs = append(programs, badProgram{good, list(ge("0", "1", "1"), bad.f, api.Fact{Op: 9}), bad.e})
	}
	return programs
}
