package fact

import (
	"fmt"
	"math"
	"math/big"
	"math/rand"
	"slices"
	"strings"
	"testing"

	"surveyor/api"
)

func TestP6_1Check(t *testing.T) {
	n := longest()
	for _, f := range list(ge("0"), ge("-1", "0", "0"), eq(n, n, "-"+n), mod("2", "-"+n, n), mod(n, "0", "5"), mod("2", "0"), ge("0", slices.Repeat([]api.Int{"-" + n}, api.MaxDims)...)) {
		want(t, "Check of "+short(f), Check(f, len(f.Coef)), api.OK, 0, 0)
	}
	for _, c := range badFacts() {
		want(t, "Check of "+short(c.f), Check(c.f, c.n), c.e, 0, 0)
	}
	for _, n := range []int{0, 1, 3, api.MaxDims} {
		want(t, "Check of another shape", Check(ge("x", "x", "x"), n), api.ErrShape, 0, 0)
	}
	for _, n := range []int{-1, api.MaxDims + 1, math.MinInt, math.MaxInt} {
		want(t, "Check without a size", Check(api.Fact{Op: 9}, n), api.ErrRange, 0, 0)
	}
}

// TestFirstErrors checks that the errors of facts come before all others (P6.1 and P6.2).
func TestFirstErrors(t *testing.T) {
	for _, c := range badFacts() {
		what := " of " + short(c.f)
		ok, e := Holds(c.f, slices.Repeat([]api.Int{"x"}, c.n))
		want(t, "Holds"+what, ok, false, e, c.e)
		l, e := Normal(c.f, c.n)
		want(t, "Normal"+what, len(l), 0, e, c.e)
		sign, e := Compare(c.f, api.Fact{Op: -5}, c.n)
		want(t, "Compare"+what, sign, 0, e, c.e)
		parts, e := Negate(c.f, c.n)
		want(t, "Negate"+what, len(parts), 0, e, c.e)
		l, e = Substitute(c.f, c.n, -1, lin("x", "x", "x", "x", "x"))
		want(t, "Substitute"+what, len(l), 0, e, c.e)
		l, e = Rename(c.f, slices.Repeat([]int{-7}, c.n), -1)
		want(t, "Rename"+what, len(l), 0, e, c.e)
		text, e := Format(c.f, make([]string, c.n))
		want(t, "Format"+what, text, "", e, c.e)
		if c.n > api.MaxDims {
			continue
		}
		good := ge("0", zeros(c.n)...)
		sign, e = Compare(good, c.f, c.n)
		want(t, "Compare with"+what, sign, 0, e, c.e)
		l, e = Conjoin(list(good, c.f, api.Fact{Op: -5}), c.n)
		want(t, "Conjoin"+what, len(l), 0, e, c.e)
		want(t, "Conjunction"+what, Conjunction(list(c.f, c.f), c.n), c.e, 0, 0)
		ok, e = All(list(c.f, api.Fact{Op: -5}), slices.Repeat([]api.Int{"x"}, c.n))
		want(t, "All"+what, ok, false, e, c.e)
	}
}

func TestP6_1Holds(t *testing.T) {
	n := longest()
	for _, c := range []struct {
		f     api.Fact
		point []api.Int
		ok    bool
	}{
		{ge("7", "4", "-6"), []api.Int{"1", "1"}, true}, {ge("7", "4", "-6"), []api.Int{"-1", "1"}, false}, {ge("0", "1"), []api.Int{"0"}, true}, {ge("0", "1"), []api.Int{"-1"}, false},
		{eq("-4", "2"), []api.Int{"2"}, true}, {eq("-4", "2"), []api.Int{"3"}, false}, {eq("-4", "2"), []api.Int{"1"}, false},
		{mod("6", "9", "7"), []api.Int{"3"}, true}, {mod("6", "9", "7"), []api.Int{"-3"}, true}, {mod("6", "9", "7"), []api.Int{"4"}, false}, {mod("6", "-9", "7"), []api.Int{"-4"}, false},
		{ge("0"), nil, true}, {ge("-1"), nil, false}, {mod("2", "-4"), nil, true}, {mod("2", "-3"), nil, false},
		{ge(n, n, n), []api.Int{n, "-" + n}, true}, {eq("0", n, n), []api.Int{n, "-" + n}, true}, {mod(n, n, n), []api.Int{n}, true}, {ge("-1", n, n), []api.Int{n, "-" + n}, false},
	} {
		ok, e := Holds(c.f, c.point)
		want(t, fmt.Sprintf("Holds of %s at %s", short(c.f), short(c.point)), ok, c.ok, e, api.OK)
	}
	for x, f := range badNumbers() {
		ok, e := Holds(eq("1", "1", "0"), []api.Int{"5", x})
		want(t, "Holds at "+short(x), ok, false, e, f)
	}
	ok, e := Holds(ge("0", "1", "1"), []api.Int{n + "0", "x"})
	want(t, "Holds at bad points", ok, false, e, api.ErrLarge)
	ok, e = Holds(ge("0", "1"), []api.Int{"x", "1"})
	want(t, "Holds at a longer point", ok, false, e, api.ErrShape)
	ok, e = Holds(ge("0", "1"), zeros(api.MaxDims+1))
	want(t, "Holds at a point that is too long", ok, false, e, api.ErrRange)
	forRandom(20, func(random *rand.Rand, f api.Fact, n, digits int) {
		point := randomInts(random, n, digits)
		ok, e := Holds(f, point)
		want(t, "Holds of "+short(f), ok, holdsAt(f, point), e, api.OK)
	})
}

func TestP6_1False(t *testing.T) {
	for n := range api.MaxDims + 1 {
		f, e := False(n)
		want(t, "False", f, fallen(n), e, api.OK)
	}
	for _, n := range []int{-1, api.MaxDims + 1, math.MinInt, math.MaxInt} {
		f, e := False(n)
		want(t, "False", f, api.Fact{}, e, api.ErrRange)
	}
}

func TestP6_1Normal(t *testing.T) {
	n := longest()
	power := api.Int("1" + strings.Repeat("0", api.MaxDigits-1))
	for _, c := range []struct {
		f api.Fact
		l []api.Fact
	}{
		{ge("7", "4", "-6"), list(ge("3", "2", "-3"))}, {ge("-7", "4", "-6"), list(ge("-4", "2", "-3"))}, {ge("0", "0", "-3"), list(ge("0", "0", "-1"))}, {ge("5", "1"), list(ge("5", "1"))},
		{eq("4", "-2"), list(eq("-2", "1"))}, {eq("-1", "2"), list(fallen(1))}, {eq("6", "0", "-3", "9"), list(eq("-2", "0", "1", "-3"))}, {eq("0", "-5"), list(eq("0", "1"))},
		{mod("6", "9", "7"), list(mod("6", "3", "1"))}, {mod("6", "2", "4"), list(mod("3", "1", "2"))}, {mod("6", "1", "4"), list(fallen(1))}, {mod("6", "12", "-6"), nil}, {mod("6", "3", "-6"), list(fallen(1))}, {mod("5", "0", "-1"), list(mod("5", "0", "4"))}, {mod("4", "2", "6", "-10"), list(mod("2", "1", "1", "1"))},
		{ge("0", "0"), nil}, {ge("5"), nil}, {ge("-5", "0"), list(fallen(1))}, {eq("0"), nil}, {eq("5", "0", "0"), list(fallen(2))}, {eq("-5"), list(fallen(0))}, {mod("3", "6", "0"), nil}, {mod("3", "7", "0"), list(fallen(1))}, {mod("3", "-7"), list(fallen(0))},
		{fallen(2), list(fallen(2))}, {ge(n, n), list(ge("1", "1"))}, {ge("-"+n, "2"), list(ge("-5"+power[1:], "1"))},
	} {
		l, e := Normal(c.f, len(c.f.Coef))
		want(t, "Normal of "+short(c.f), l, c.l, e, api.OK)
	}
	forRandom(60, func(random *rand.Rand, f api.Fact, n, digits int) {
		l, e := Normal(f, n)
		want(t, "Normal of "+short(f), l, normalOf(f), e, api.OK)
	})
}

func TestP6_1Compare(t *testing.T) {
	sorted := list(ge("-5", "-3", "9"), ge("-1", "-3", "10"), ge("2", "-3", "10"), ge("10", "-3", "10"), ge("-9", "2", "0"), ge("0", "10", "-1"), eq("0", "-11", "0"), eq("0", "-2", "0"), mod("9", "1", "0", "0"), mod("10", "1", "0", "0"), mod("2", "2", "0", "0"))
	for i, a := range sorted {
		for k, b := range sorted {
			sign, e := Compare(a, b, 2)
			want(t, fmt.Sprintf("Compare of %s and %s", short(a), short(b)), sign, max(-1, min(1, i-k)), e, api.OK)
		}
	}
	forRandom(20, func(random *rand.Rand, f api.Fact, n, digits int) {
		g := randomFact(random, n, digits)
		sign, e := Compare(f, g, n)
		want(t, "Compare", sign, before(f, g), e, api.OK)
		sign, e = Compare(f, f, n)
		want(t, "Compare with itself", sign, 0, e, api.OK)
	})
}

func TestP6_2Conjoin(t *testing.T) {
	for _, c := range []struct {
		l, result []api.Fact
	}{
		{nil, nil}, {list(ge("1", "0"), eq("0", "0")), nil},
		{list(eq("-4", "2"), ge("7", "2"), mod("6", "9", "7"), ge("3", "1"), ge("3", "-1")), list(ge("3", "-1"), ge("3", "1"), eq("-2", "1"), mod("6", "3", "1"))},
		{list(ge("7", "2"), eq("1", "2"), ge("3", "1")), list(fallen(1))},
		{list(fallen(1), fallen(1)), list(fallen(1))},
	} {
		l, e := Conjoin(c.l, 1)
		want(t, "Conjoin of "+short(c.l), l, c.result, e, api.OK)
	}
	forRandom(6, func(random *rand.Rand, f api.Fact, n, digits int) {
		l := list(f)
		for range random.Intn(20) {
			l = append(l, l[random.Intn(len(l))], randomFact(random, n, digits))
		}
		wanted, f2 := conjoined(l, n)
		got, e := Conjoin(l, n)
		want(t, "Conjoin of "+short(l), got, wanted, e, f2)
	})
}

// distinct returns normal facts in ascending order.
func distinct(count int) []api.Fact {
	var l []api.Fact
	for i := range count {
		l = append(l, ge(api.Int(fmt.Sprint(i)), "1"))
	}
	return l
}

func TestP6_2ConjoinLimits(t *testing.T) {
	none := []api.Fact(nil)
	full := distinct(api.MaxFacts)
	l, e := Conjoin(full, 1)
	want(t, "Conjoin of as many facts as fit", l, full, e, api.OK)
	l, e = Conjoin(slices.Repeat(full, api.MaxList/api.MaxFacts), 1)
	want(t, "Conjoin of a full list", l, full, e, api.OK)
	l, e = Conjoin(distinct(api.MaxFacts+1), 1)
	want(t, "Conjoin of one fact too many", l, none, e, api.ErrMany)
	l, e = Conjoin(append(distinct(api.MaxList-1), eq("1", "2")), 1)
	want(t, "Conjoin of many with the false fact", l, list(fallen(1)), e, api.OK)
	l, e = Conjoin(distinct(api.MaxList+1), -1)
	want(t, "Conjoin of a list that is too long", l, none, e, api.ErrMany)
	l, e = Conjoin(make([]api.Fact, api.MaxList+1), 1)
	want(t, "Conjoin of a list that is too long", l, none, e, api.ErrMany)
	l, e = Conjoin(append(distinct(api.MaxList-1), api.Fact{Op: 5}), 1)
	want(t, "Conjoin with an error behind many", l, none, e, api.ErrArg)
	l, e = Conjoin(list(fallen(1), ge("x", "1")), 1)
	want(t, "Conjoin with an error behind the false fact", l, none, e, api.ErrForm)
	for _, n := range []int{-1, api.MaxDims + 1, math.MaxInt} {
		l, e = Conjoin(distinct(3), n)
		want(t, "Conjoin without a size", l, none, e, api.ErrRange)
		l, e = Conjoin(nil, n)
		want(t, "Conjoin of nothing without a size", l, none, e, api.ErrRange)
	}
}

func TestP6_2Conjunction(t *testing.T) {
	for _, c := range []struct {
		l []api.Fact
		n int
		e api.Errno
	}{
		{nil, 0, api.OK}, {nil, api.MaxDims, api.OK}, {nil, -1, api.ErrRange}, {nil, api.MaxDims + 1, api.ErrRange},
		{list(ge("3", "-1"), ge("3", "1"), eq("-2", "1"), mod("6", "3", "1")), 1, api.OK},
		{list(fallen(2)), 2, api.OK}, {list(fallen(0)), 0, api.OK},
		{distinct(api.MaxFacts), 1, api.OK}, {distinct(api.MaxFacts + 1), 1, api.ErrMany}, {distinct(api.MaxFacts + 1), -1, api.ErrRange}, {make([]api.Fact, api.MaxFacts+1), 1, api.ErrMany},
		{list(ge("3", "1"), ge("3", "1")), 1, api.ErrOrder}, {list(ge("3", "1"), ge("3", "-1")), 1, api.ErrOrder}, {list(eq("3", "1"), ge("3", "1")), 1, api.ErrOrder},
		{list(ge("3", "2")), 1, api.ErrForm}, {list(eq("3", "-1")), 1, api.ErrForm}, {list(mod("6", "3", "7")), 1, api.ErrForm}, {list(mod("6", "3", "3")), 1, api.ErrForm}, {list(ge("0", "0")), 1, api.ErrForm}, {list(ge("-2", "0")), 1, api.ErrForm}, {list(eq("1", "0")), 1, api.ErrForm}, {list(mod("2", "1")), 0, api.ErrForm},
		{list(fallen(1), ge("3", "1")), 1, api.ErrForm}, {list(ge("3", "-1"), fallen(1)), 1, api.ErrForm}, {list(fallen(1), fallen(1)), 1, api.ErrForm},
		{list(ge("3", "1"), ge("3", "-1"), ge("x", "1")), 1, api.ErrOrder}, {list(ge("3", "1"), ge("x", "-1")), 1, api.ErrForm}, {list(ge("3", "1"), ge("6", "-2")), 1, api.ErrForm}, {list(ge("3", "1"), ge("3", "2", "1")), 1, api.ErrShape},
	} {
		want(t, "Conjunction of "+short(c.l), Conjunction(c.l, c.n), c.e, 0, 0)
		if c.e != api.OK && c.n >= 0 {
			ok, e := All(c.l, slices.Repeat([]api.Int{"x"}, c.n))
			want(t, "All of "+short(c.l), ok, false, e, c.e)
		}
	}
	forRandom(6, func(random *rand.Rand, f api.Fact, n, digits int) {
		l := list(f, randomFact(random, n, digits), randomFact(random, n, digits))
		want(t, "Conjunction of a conjunction", Conjunction(must(Conjoin(l, n)), n), api.OK, 0, 0)
	})
}

func TestP6_2All(t *testing.T) {
	l := list(ge("3", "-1"), mod("6", "3", "1"))
	for point, wanted := range map[api.Int]bool{"3": true, "-3": true, "9": false, "2": false, "-9": true} {
		ok, e := All(l, []api.Int{point})
		want(t, "All at "+short(point), ok, wanted, e, api.OK)
	}
	ok, e := All(nil, []api.Int{"1", "2"})
	want(t, "All of nothing", ok, true, e, api.OK)
	ok, e = All(list(fallen(1)), []api.Int{"1"})
	want(t, "All of the false fact", ok, false, e, api.OK)
	for x, f := range badNumbers() {
		ok, e := All(list(fallen(2)), []api.Int{"1", x})
		want(t, "All at "+short(x), ok, false, e, f)
		ok, e = All(nil, []api.Int{x, "1"})
		want(t, "All of nothing at "+short(x), ok, false, e, f)
	}
	ok, e = All(nil, zeros(api.MaxDims+1))
	want(t, "All at a point that is too long", ok, false, e, api.ErrRange)
}

// parts is the reference for Negate.
func parts(f api.Fact) ([][]api.Fact, api.Errno) {
	minus := func(coef []api.Int) []api.Int {
		var result []api.Int
		for _, c := range coef {
			result = append(result, toInt(new(big.Int).Neg(toBig(c))))
		}
		return result
	}
	below := new(big.Int).Neg(toBig(f.Const))
	facts := list(ge(toInt(below.Sub(below, big.NewInt(1))), minus(f.Coef)...))
	if f.Op == api.FactEq {
		above := toBig(f.Const)
		facts = list(ge(toInt(above.Sub(above, big.NewInt(1))), f.Coef...), facts[0])
	}
	var result [][]api.Fact
	for _, g := range facts {
		l, e := fitting(normalOf(g))
		if e != api.OK {
			return nil, e
		}
		if len(l) == 0 || before(l[0], fallen(len(f.Coef))) != 0 {
			result = append(result, l)
		}
	}
	return result, api.OK
}

func TestP6_2Negate(t *testing.T) {
	n := longest()
	power := api.Int("1" + strings.Repeat("0", api.MaxDigits-1))
	for _, c := range []struct {
		f      api.Fact
		result [][]api.Fact
		e      api.Errno
	}{
		{eq("-2", "1"), [][]api.Fact{list(ge("-3", "1")), list(ge("1", "-1"))}, api.OK},
		{eq("-1", "2"), [][]api.Fact{list(ge("-1", "1")), list(ge("0", "-1"))}, api.OK},
		{ge("3", "2"), [][]api.Fact{list(ge("-2", "-1"))}, api.OK},
		{ge("0", "0"), nil, api.OK}, {ge("5"), nil, api.OK}, {ge("-1", "0"), [][]api.Fact{{}}, api.OK}, {ge("-7"), [][]api.Fact{{}}, api.OK},
		{eq("0", "0"), nil, api.OK}, {eq("3"), [][]api.Fact{{}}, api.OK}, {eq("-3", "0"), [][]api.Fact{{}}, api.OK},
		{mod("5", "1", "1"), nil, api.ErrUse}, {mod("5", "1"), nil, api.ErrUse},
		{ge(n, "1"), nil, api.ErrLarge}, {ge("-"+n, "1"), [][]api.Fact{list(ge(n[1:]+"8", "-1"))}, api.OK}, {ge(n, "-2"), [][]api.Fact{list(ge("-5"+power[1:], "1"))}, api.OK},
		{eq(n, "1"), nil, api.ErrLarge}, {eq("-"+n, "1"), nil, api.ErrLarge}, {ge(n), nil, api.OK}, {eq(n, "0"), [][]api.Fact{{}}, api.OK}, {ge("0", n), [][]api.Fact{list(ge("-1", "-1"))}, api.OK},
	} {
		result, e := Negate(c.f, len(c.f.Coef))
		want(t, "Negate of "+short(c.f), result, c.result, e, c.e)
	}
	forRandom(20, func(random *rand.Rand, f api.Fact, n, digits int) {
		if f.Op == api.FactMod {
			return
		}
		wanted, f2 := parts(f)
		got, e := Negate(f, n)
		want(t, "Negate of "+short(f), got, wanted, e, f2)
	})
}

// substitutedFact is the reference for Substitute.
func substitutedFact(f api.Fact, i int, by api.Linear) ([]api.Fact, api.Errno) {
	rat := func(x string) *big.Rat {
		value, _ := new(big.Rat).SetString(x)
		return value
	}
	var numbers []*big.Rat
	factor := big.NewInt(1)
	for k, x := range append(slices.Clone(by.Coef), by.Const) {
		number := new(big.Rat).Mul(rat(string(x)), rat(string(f.Coef[i])))
		if k == len(by.Coef) {
			number.Add(number, rat(string(f.Const)))
		} else if k != i {
			number.Add(number, rat(string(f.Coef[k])))
		}
		numbers = append(numbers, number)
		common := new(big.Int).GCD(nil, nil, factor, number.Denom())
		factor.Mul(factor, new(big.Int).Quo(number.Denom(), common))
	}
	result := api.Fact{Op: f.Op, Mod: toInt(new(big.Int).Mul(toBig(f.Mod), factor))}
	for _, x := range numbers {
		result.Coef = append(result.Coef, toInt(x.Mul(x, new(big.Rat).SetInt(factor)).Num()))
	}
	result.Const, result.Coef = result.Coef[len(by.Coef)], result.Coef[:len(by.Coef)]
	return fitting(normalOf(result))
}

func TestP6_2Substitute(t *testing.T) {
	n := longest()
	for _, c := range []struct {
		f      api.Fact
		i      int
		by     api.Linear
		result []api.Fact
		e      api.Errno
	}{
		{ge("0", "2", "1"), 1, lin("3", "1/2", "0"), list(ge("1", "1", "0")), api.OK},
		{ge("0", "2", "1"), 1, lin("3", "1/2", "2"), list(ge("6", "5", "4")), api.OK},
		{eq("1", "2"), 0, lin("1/2", "0"), list(fallen(1)), api.OK}, {eq("-1", "2"), 0, lin("1/2", "0"), nil, api.OK},
		{mod("6", "1", "1", "0"), 0, lin("0", "0", "1/2"), list(mod("12", "2", "0", "1")), api.OK},
		{mod("6", "1", "0", "1"), 0, lin("1/7", "0", "1/2"), list(mod("6", "1", "0", "1")), api.OK},
		{ge(n, "1"), 0, lin("1", "1"), nil, api.ErrLarge}, {ge(n, "2"), 0, lin("1", "1"), list(ge("5"+api.Int(strings.Repeat("0", api.MaxDigits-1)), "1")), api.OK},
		{ge("0", n, "0"), 0, lin("0", "0", "2"), list(ge("0", "0", "1")), api.OK}, {ge("1", n, "0"), 0, lin("0", "0", "2"), list(ge("0", "0", "1")), api.OK}, {eq("0", "1", n), 0, lin("0", "0", "2/3"), list(eq("0", "0", "1")), api.OK}, {eq("0", "1", n, "1"), 0, lin("0", "0", "2/3", "0"), nil, api.ErrLarge},
		{ge("0", "1"), 1, lin("1", "1"), nil, api.ErrNone}, {ge("0", "1"), -1, lin("1", "1"), nil, api.ErrNone}, {ge("0"), 0, lin("1"), nil, api.ErrNone}, {ge("0", "1"), math.MinInt, lin("1", "1"), nil, api.ErrNone},
		{ge("0", "1"), 5, lin("1"), nil, api.ErrMismatch}, {ge("0"), 0, lin("1", "1"), nil, api.ErrMismatch}, {ge("0", "1"), 5, lin("01"), nil, api.ErrForm}, {ge("0", "1"), 5, lin(api.Rat(n) + "0"), nil, api.ErrLarge}, {ge("0", "1"), 5, lin("x", slices.Repeat([]api.Rat{"1"}, api.MaxDims+1)...), nil, api.ErrMany},
	} {
		l, e := Substitute(c.f, len(c.f.Coef), c.i, c.by)
		want(t, fmt.Sprintf("Substitute of %d in %s by %s", c.i, short(c.f), short(c.by)), l, c.result, e, c.e)
	}
	forRandom(8, func(random *rand.Rand, f api.Fact, n, digits int) {
		if n > 0 {
			by, i := randomLinear(random, n, max(1, digits/(1+random.Intn(9)))), random.Intn(n)
			wanted, f2 := substitutedFact(f, i, by)
			got, e := Substitute(f, n, i, by)
			want(t, fmt.Sprintf("Substitute of %d in %s by %s", i, short(f), short(by)), got, wanted, e, f2)
		}
	})
}

// TestP6_2SubstituteLong has the longest numbers on the way to a result: the common denominator has 3200 digits.
func TestP6_2SubstituteLong(t *testing.T) {
	n := api.MaxDims
	f := ge(longest(), slices.Repeat([]api.Int{longest()}, n)...)
	by := api.Linear{Const: "0"}
	den := toBig("1" + api.Int(strings.Repeat("0", api.MaxDigits-1)))
	for range n {
		den.Add(den, big.NewInt(1))
		by.Coef = append(by.Coef, api.Rat(new(big.Rat).SetFrac(toBig(longest()), den).RatString()))
	}
	l, e := Substitute(f, n, 3, by)
	want(t, "Substitute", len(l), 0, e, api.ErrLarge)
	f.Op, f.Const = api.FactEq, "1"
	by.Const = "1/7"
	l, e = Substitute(f, n, 3, by)
	wanted, f2 := substitutedFact(f, 3, by)
	want(t, "Substitute", l, wanted, e, f2)
	f.Op, f.Mod = api.FactMod, longest()
	l, e = Substitute(f, n, 3, by)
	wanted, f2 = substitutedFact(f, 3, by)
	want(t, "Substitute", l, wanted, e, f2)
}

// renamedFact is the reference for Rename.
func renamedFact(f api.Fact, to []int, n int) ([]api.Fact, api.Errno) {
	g := api.Fact{Op: f.Op, Coef: zeros(n), Const: f.Const, Mod: f.Mod}
	for i, k := range to {
		if k >= 0 {
			g.Coef[k] = toInt(new(big.Int).Add(toBig(g.Coef[k]), toBig(f.Coef[i])))
		}
	}
	return fitting(normalOf(g))
}

func TestP6_2Rename(t *testing.T) {
	n := longest()
	for _, c := range []struct {
		f      api.Fact
		to     []int
		n      int
		result []api.Fact
		e      api.Errno
	}{
		{ge("4", "1", "-3"), []int{1, 0}, 2, list(ge("4", "-3", "1")), api.OK}, {ge("4", "1", "-3"), []int{0, 0}, 1, list(ge("2", "-1")), api.OK}, {ge("4", "1", "-3"), []int{2, 0}, 3, list(ge("4", "-3", "0", "1")), api.OK},
		{ge("4", "3", "-3"), []int{0, 0}, 1, nil, api.OK}, {ge("-4", "3", "-3"), []int{1, 1}, 2, list(fallen(2)), api.OK}, {ge("-4", "0", "3"), []int{-1, 0}, 1, list(ge("-2", "1")), api.OK}, {ge("4", "0", "0"), []int{-1, -1}, 0, nil, api.OK}, {mod("6", "3", "5", "4"), []int{0, 0}, 1, list(mod("2", "1", "1")), api.OK}, {eq("3"), nil, 2, list(fallen(2)), api.OK},
		{ge("4", "1", "-3"), []int{-1, 0}, 2, nil, api.ErrUse}, {ge("4", "1", "-3"), []int{0, -1}, 2, nil, api.ErrUse}, {ge("4", "1", "-3"), []int{-1, 5}, 2, nil, api.ErrUse}, {ge("4", "1", "-3"), []int{5, -1}, 2, nil, api.ErrNone}, {ge("4", "0", "0"), []int{-2, 0}, 2, nil, api.ErrNone}, {ge("4", "0", "0"), []int{0, 2}, 2, nil, api.ErrNone}, {ge("4", "0"), []int{0}, 0, nil, api.ErrNone}, {ge("4", "0"), []int{math.MinInt}, 5, nil, api.ErrNone},
		{ge("4", "1"), []int{7}, -1, nil, api.ErrRange}, {ge("4", "1"), []int{0}, api.MaxDims + 1, nil, api.ErrRange}, {ge("4", "1"), []int{0, 1}, 2, nil, api.ErrShape}, {ge("4", "1"), nil, -1, nil, api.ErrShape}, {ge("4", "1"), make([]int, api.MaxDims+1), 1, nil, api.ErrRange},
		{ge("4", n, "1"), []int{0, 0}, 1, list(ge("0", "1")), api.OK}, {ge("0", n, "1", "1"), []int{0, 0, 1}, 2, nil, api.ErrLarge}, {mod("7", "0", n, n), []int{0, 0}, 1, must(Normal(mod("7", "0", toInt(new(big.Int).Mod(new(big.Int).Mul(toBig(n), big.NewInt(2)), big.NewInt(7)))), 1)), api.OK},
	} {
		l, e := Rename(c.f, c.to, c.n)
		want(t, fmt.Sprintf("Rename of %s by %d", short(c.f), c.to), l, c.result, e, c.e)
	}
	forRandom(10, func(random *rand.Rand, f api.Fact, n, digits int) {
		size := 1 + random.Intn(api.MaxDims)
		var to []int
		for _, c := range f.Coef {
			k := random.Intn(size)
			if c == "0" && random.Intn(2) == 0 {
				k = -1
			}
			to = append(to, k)
		}
		wanted, f2 := renamedFact(f, to, size)
		got, e := Rename(f, to, size)
		want(t, fmt.Sprintf("Rename of %s by %d", short(f), to), got, wanted, e, f2)
	})
}

func TestP6_2Format(t *testing.T) {
	n := longest()
	for _, c := range []struct {
		f     api.Fact
		names []string
		text  string
	}{
		{ge("3", "2", "-1"), []string{"x", "y"}, "2 x - y + 3 >= 0"}, {fallen(2), []string{"x", "y"}, "-1 >= 0"}, {mod("5", "0", "-1"), []string{"x"}, "-x mod 5 = 0"},
		{ge("0"), nil, "0 >= 0"}, {eq("0", "0"), []string{"x"}, "0 = 0"}, {eq("-12", "0", "1", "0"), []string{"x", "y", "z"}, "y - 12 = 0"}, {mod("12", "-7", "-1", "-30", "1"), []string{"a.b", "c", "d"}, "-a.b - 30 c + d - 7 mod 12 = 0"}, {ge("0", "-2", "-2"), []string{"x", "x"}, "-2 x - 2 x >= 0"}, {eq("1", "1", "10"), []string{"x", "y"}, "x + 10 y + 1 = 0"}, {mod("2", "7"), nil, "7 mod 2 = 0"}, {mod("2", "0", "0"), []string{"x"}, "0 mod 2 = 0"},
		{ge("1", "1", "1"), []string{"", ""}, " +  + 1 >= 0"}, {ge("0", "-3", "1"), []string{"", "y"}, "-3  + y >= 0"}, {ge("-"+n, n), []string{"\xff é"}, string(n) + " \xff é - " + string(n) + " >= 0"}, {ge("0", "-"+n), []string{"x"}, "-" + string(n) + " x >= 0"},
	} {
		text, e := Format(c.f, c.names)
		want(t, "Format of "+short(c.f), text, c.text, e, api.OK)
	}
	text, e := Format(ge("1", "1"), nil)
	want(t, "Format without a name", text, "", e, api.ErrShape)
	text, e = Format(ge("1", "1"), make([]string, api.MaxDims+1))
	want(t, "Format with too many names", text, "", e, api.ErrRange)
}

func TestP6_3Normal(t *testing.T) {
	random := rand.New(rand.NewSource(2))
	for range 400 {
		n := random.Intn(3)
		f := randomFact(random, n, 1)
		l := must(Normal(f, n))
		want(t, "Conjunction of the normal form", Conjunction(l, n), api.OK, 0, 0)
		for _, g := range l {
			again, e := Normal(g, n)
			want(t, "Normal of the normal form", again, l, e, api.OK)
		}
		forPoints(n, -6, 6, func(point []api.Int) {
			if must(All(l, point)) != must(Holds(f, point)) {
				t.Fatalf("%s and its normal form %s differ at %s", short(f), short(l), short(point))
			}
		})
	}
}

func TestP6_3Conjunctions(t *testing.T) {
	random := rand.New(rand.NewSource(3))
	for range 200 {
		n := random.Intn(3)
		var l []api.Fact
		for range random.Intn(5) {
			l = append(l, randomFact(random, n, 1))
		}
		conjunction := must(Conjoin(l, n))
		again, e := Conjoin(conjunction, n)
		want(t, "Conjoin of a conjunction", again, conjunction, e, api.OK)
		forPoints(n, -5, 5, func(point []api.Int) {
			all := true
			for _, f := range l {
				all = all && must(Holds(f, point))
			}
			if must(All(conjunction, point)) != all {
				t.Fatalf("%s and its conjunction %s differ at %s", short(l), short(conjunction), short(point))
			}
		})
	}
}

func TestP6_3Negate(t *testing.T) {
	random := rand.New(rand.NewSource(4))
	for range 300 {
		n := random.Intn(3)
		f := randomFact(random, n, 1)
		if f.Op == api.FactMod {
			continue
		}
		negation := must(Negate(f, n))
		forPoints(n, -6, 6, func(point []api.Int) {
			count := 0
			for _, l := range negation {
				if must(All(l, point)) {
					count++
				}
			}
			if must(Holds(f, point)) == (count > 0) || count > 1 {
				t.Fatalf("%d conjunctions of the negation of %s hold at %s", count, short(f), short(point))
			}
		})
	}
}

func TestP6_3Substitute(t *testing.T) {
	random := rand.New(rand.NewSource(5))
	for range 300 {
		n := 1 + random.Intn(2)
		f, by, i := randomFact(random, n, 1), randomLinear(random, n, 1), random.Intn(n)
		l := must(Substitute(f, n, i, by))
		forPoints(n, -6, 6, func(point []api.Int) {
			value, _ := new(big.Rat).SetString(string(by.Const))
			for k, c := range by.Coef {
				x, _ := new(big.Rat).SetString(string(c))
				value.Add(value, x.Mul(x, new(big.Rat).SetInt(toBig(point[k]))))
			}
			if !value.IsInt() {
				return
			}
			moved := slices.Clone(point)
			moved[i] = toInt(value.Num())
			if must(All(l, point)) != must(Holds(f, moved)) {
				t.Fatalf("%s with %s for %d is not %s at %s", short(f), short(by), i, short(l), short(point))
			}
		})
	}
}

// TestMemory checks that arguments are not changed, and that results share no memory with them or among each other.
func TestMemory(t *testing.T) {
	coef := append(make([]api.Int, 0, 8), "2", "3")
	f, g := ge("1", coef...), eq("1", coef...)
	by := lin("1", append(make([]api.Rat, 0, 8), "1", "1/2")...)
	state := func() string { return fmt.Sprintf("%q", []any{f, g, by, coef[:8], by.Coef[:8]}) }
	state0 := state()
	spoil := func(l ...api.Fact) {
		for _, f := range l {
			before := fmt.Sprintf("%q", []any{l})
			_ = append(f.Coef, "x")
			if fmt.Sprintf("%q", []any{l}) != before {
				t.Errorf("facts of a result share memory")
			}
			for i := range f.Coef {
				f.Coef[i] = "x"
			}
		}
	}
	spoil(must(Normal(f, 2))...)
	spoil(must(Normal(g, 2))...)
	spoil(must(Conjoin(list(f, g, f, mod("5", "1", coef...)), 2))...)
	for _, l := range must(Negate(g, 2)) {
		spoil(l...)
	}
	spoil(must(Substitute(f, 2, 1, by))...)
	spoil(must(Rename(f, []int{0, 1}, 2))...)
	spoil(must(Conjoin(list(f, fallen(2)), 2))...)
	spoil(must(False(2)))
	must(Holds(f, []api.Int{"1", "2"}))
	if state() != state0 {
		t.Errorf("arguments were changed from %s to %s", state0, state())
	}
}
