package fact

import (
	"fmt"
	"math/big"
	"math/rand"
	"slices"
	"strings"
	"testing"

	"surveyor/api"
)

// This file has the references that results are compared with, and arguments.

// longest has as many digits as a number may have.
func longest() api.Int {
	return api.Int(strings.Repeat("9", api.MaxDigits))
}

func short(x any) string {
	text := fmt.Sprintf("%q", x)
	if len(text) > 300 {
		return fmt.Sprintf("%s.. (%d bytes)", text[:300], len(text))
	}
	return text
}

// want compares results, where nil and empty slices are the same.
func want(t *testing.T, what string, got, wanted any, e, f api.Errno) {
	t.Helper()
	if fmt.Sprintf("%q", got) != fmt.Sprintf("%q", wanted) || e != f {
		t.Errorf("%s: got %s and %d, want %s and %d", what, short(got), e, short(wanted), f)
	}
}

// must returns a value without an error.
func must[T any](x T, e api.Errno) T {
	if e != api.OK {
		panic(fmt.Sprint("error ", e))
	}
	return x
}

func ge(constant api.Int, coef ...api.Int) api.Fact {
	return api.Fact{Op: api.FactGe, Coef: coef, Const: constant, Mod: "0"}
}

func eq(constant api.Int, coef ...api.Int) api.Fact {
	return api.Fact{Op: api.FactEq, Coef: coef, Const: constant, Mod: "0"}
}

func mod(modulus, constant api.Int, coef ...api.Int) api.Fact {
	return api.Fact{Op: api.FactMod, Coef: coef, Const: constant, Mod: modulus}
}

func lin(constant api.Rat, coef ...api.Rat) api.Linear {
	return api.Linear{Coef: coef, Const: constant}
}

func list(facts ...api.Fact) []api.Fact { return facts }

func zeros(n int) []api.Int { return slices.Repeat([]api.Int{"0"}, n) }

func toBig(a api.Int) *big.Int {
	value, ok := new(big.Int).SetString(string(a), 10)
	if !ok {
		panic("no integer: " + a)
	}
	return value
}

func toInt(x *big.Int) api.Int { return api.Int(x.String()) }

// divides reports whether x is a multiple of y.
func divides(y, x *big.Int) bool {
	return y.Sign() != 0 && new(big.Int).Mod(x, new(big.Int).Abs(y)).Sign() == 0
}

// trueAt is the reference for the value of an expression in a fact.
func trueAt(f api.Fact, value *big.Int) bool {
	switch f.Op {
	case api.FactGe:
		return value.Sign() >= 0
	case api.FactEq:
		return value.Sign() == 0
	}
	return divides(toBig(f.Mod), value)
}

func valueAt(f api.Fact, point []api.Int) *big.Int {
	sum := toBig(f.Const)
	for i, c := range f.Coef {
		sum.Add(sum, new(big.Int).Mul(toBig(c), toBig(point[i])))
	}
	return sum
}

func holdsAt(f api.Fact, point []api.Int) bool { return trueAt(f, valueAt(f, point)) }

// fallen is the false fact.
func fallen(n int) api.Fact { return ge("-1", zeros(n)...) }

// normalOf is the reference for normal forms, in the words of the document.
func normalOf(f api.Fact) []api.Fact {
	n := len(f.Coef)
	g := new(big.Int)
	for _, c := range f.Coef {
		g.GCD(nil, nil, g, new(big.Int).Abs(toBig(c)))
	}
	if g.Sign() == 0 {
		if trueAt(f, toBig(f.Const)) {
			return nil
		}
		return list(fallen(n))
	}
	quotients := func(by *big.Int) []api.Int {
		var coef []api.Int
		for _, c := range f.Coef {
			coef = append(coef, toInt(new(big.Int).Quo(toBig(c), by)))
		}
		return coef
	}
	switch constant := toBig(f.Const); f.Op {
	case api.FactGe:
		return list(ge(toInt(new(big.Int).Div(constant, g)), quotients(g)...))
	case api.FactEq:
		if !divides(g, constant) {
			return list(fallen(n))
		}
		first := slices.IndexFunc(f.Coef, func(c api.Int) bool { return c != "0" })
		if f.Coef[first][0] == '-' {
			g.Neg(g)
		}
		return list(eq(toInt(constant.Quo(constant, g)), quotients(g)...))
	}
	return normalModOf(f)
}

func normalModOf(f api.Fact) []api.Fact {
	modulus := toBig(f.Mod)
	var coef []*big.Int
	g := new(big.Int).Set(modulus)
	for _, c := range f.Coef {
		rest := new(big.Int).Mod(toBig(c), modulus)
		coef = append(coef, rest)
		g.GCD(nil, nil, g, rest)
	}
	constant := new(big.Int).Mod(toBig(f.Const), modulus)
	if !divides(g, constant) {
		return list(fallen(len(f.Coef)))
	}
	if g.Cmp(modulus) == 0 {
		return nil
	}
	result := mod(toInt(modulus.Quo(modulus, g)), toInt(constant.Quo(constant, g)))
	for _, c := range coef {
		result.Coef = append(result.Coef, toInt(c.Quo(c, g)))
	}
	return list(result)
}

// fitting is a list of facts, or the error for long numbers.
func fitting(l []api.Fact) ([]api.Fact, api.Errno) {
	for _, f := range l {
		for _, x := range append(slices.Clone(f.Coef), f.Const, f.Mod) {
			if len(strings.TrimPrefix(string(x), "-")) > api.MaxDigits {
				return nil, api.ErrLarge
			}
		}
	}
	return l, api.OK
}

func before(a, b api.Fact) int {
	keys := func(f api.Fact) []*big.Int {
		result := []*big.Int{big.NewInt(int64(f.Op))}
		for _, x := range append(slices.Clone(f.Coef), f.Const, f.Mod) {
			result = append(result, toBig(x))
		}
		return result
	}
	return slices.CompareFunc(keys(a), keys(b), (*big.Int).Cmp)
}

// conjoined is the reference for Conjoin.
func conjoined(l []api.Fact, n int) ([]api.Fact, api.Errno) {
	var result []api.Fact
	for _, f := range l {
		result = append(result, normalOf(f)...)
	}
	slices.SortFunc(result, before)
	result = slices.CompactFunc(result, func(a, b api.Fact) bool { return before(a, b) == 0 })
	if slices.ContainsFunc(result, func(f api.Fact) bool { return before(f, fallen(n)) == 0 }) {
		return list(fallen(n)), api.OK
	}
	if len(result) > api.MaxFacts {
		return nil, api.ErrMany
	}
	return result, api.OK
}

func randomInt(random *rand.Rand, digits int) api.Int {
	if random.Intn(4) == 0 {
		return "0"
	}
	limit := new(big.Int).Exp(big.NewInt(10), big.NewInt(int64(1+random.Intn(digits))), nil)
	value := limit.Rand(random, limit)
	if random.Intn(2) == 0 {
		value.Neg(value)
	}
	return toInt(value)
}

func randomInts(random *rand.Rand, n, digits int) []api.Int {
	numbers := make([]api.Int, n)
	for i := range numbers {
		numbers[i] = randomInt(random, digits)
	}
	return numbers
}

// randomFact returns a fact of any kind, often with a common divisor.
func randomFact(random *rand.Rand, n, digits int) api.Fact {
	f := api.Fact{Op: random.Intn(3), Coef: randomInts(random, n, digits), Const: randomInt(random, digits), Mod: "0"}
	if f.Op == api.FactMod {
		modulus := toBig(randomInt(random, digits))
		f.Mod = toInt(modulus.Abs(modulus).Add(modulus, big.NewInt(2)))
		if len(f.Mod) > api.MaxDigits {
			f.Mod = "12"
		}
	}
	if random.Intn(3) == 0 && digits < 90 {
		times := big.NewInt(int64(2 + random.Intn(11)))
		for i, c := range f.Coef {
			f.Coef[i] = toInt(new(big.Int).Mul(toBig(c), times))
		}
	}
	return f
}

func randomRat(random *rand.Rand, digits int) api.Rat {
	den := toBig(randomInt(random, digits))
	if den.Sign() == 0 || random.Intn(2) == 0 {
		den.SetInt64(1)
	}
	return api.Rat(new(big.Rat).SetFrac(toBig(randomInt(random, digits)), den).RatString())
}

func randomLinear(random *rand.Rand, n, digits int) api.Linear {
	l := api.Linear{Const: randomRat(random, digits)}
	for range n {
		l.Coef = append(l.Coef, randomRat(random, digits))
	}
	return l
}

// forRandom calls a function with random facts of many sizes.
func forRandom(rounds int, function func(random *rand.Rand, f api.Fact, n, digits int)) {
	random := rand.New(rand.NewSource(1))
	for range rounds {
		for _, n := range []int{0, 1, 2, 5, api.MaxDims} {
			for _, digits := range []int{1, 2, 9, 33, 50, 99, 100} {
				function(random, randomFact(random, n, digits), n, digits)
			}
		}
	}
}

// forPoints calls a function with the points of a grid of n coordinates.
func forPoints(n, from, to int, function func(point []api.Int)) {
	point := make([]api.Int, n)
	var fill func(i int)
	fill = func(i int) {
		if i == n {
			function(slices.Clone(point))
			return
		}
		for x := from; x <= to; x++ {
			point[i] = api.Int(fmt.Sprint(x))
			fill(i + 1)
		}
	}
	fill(0)
}

// badNumbers are the numbers that no fact has, with their errors.
func badNumbers() map[api.Int]api.Errno {
	long := api.Int(strings.Repeat("7", api.MaxLong))
	return map[api.Int]api.Errno{
		"": api.ErrForm, "-": api.ErrForm, "-0": api.ErrForm, "01": api.ErrForm, "+1": api.ErrForm, "1/2": api.ErrForm, "x": api.ErrForm, "0" + long: api.ErrForm,
		longest() + "0": api.ErrLarge, "-" + longest() + "0": api.ErrLarge, long: api.ErrLarge, long + "0": api.ErrLarge,
	}
}

type badFact struct {
	f api.Fact
	n int
	e api.Errno
}

// badFacts are facts with errors.
func badFacts() []badFact {
	many := slices.Repeat([]api.Int{"1"}, api.MaxDims+1)
	large := longest() + "0"
	facts := []badFact{
		{api.Fact{}, 0, api.ErrForm},
		{ge("0", many...), api.MaxDims + 1, api.ErrRange},
		{api.Fact{Op: 7, Coef: many, Const: "x", Mod: "x"}, api.MaxDims + 1, api.ErrRange},
		{api.Fact{Op: -1, Coef: []api.Int{"x"}, Const: "x", Mod: "x"}, 1, api.ErrArg},
		{api.Fact{Op: 3, Coef: []api.Int{"x"}, Const: "x", Mod: "x"}, 1, api.ErrArg},
		{ge("0", "x", large), 2, api.ErrForm},
		{ge("0", large, "x"), 2, api.ErrLarge},
		{ge("x", large), 1, api.ErrLarge},
		{ge(large, "x"), 1, api.ErrForm},
		{mod("x", large, "1"), 1, api.ErrLarge},
		{mod(large, "x", "1"), 1, api.ErrForm},
		{mod("1", "x", "1"), 1, api.ErrForm},
		{mod("0", "1", "1"), 1, api.ErrRange},
		{mod("1", "1", "1"), 1, api.ErrRange},
		{mod("-5", "1", "1"), 1, api.ErrRange},
		{mod("-"+large, "1", "1"), 1, api.ErrLarge},
		{api.Fact{Op: api.FactGe, Coef: []api.Int{"1"}, Const: "1", Mod: "2"}, 1, api.ErrRange},
		{api.Fact{Op: api.FactEq, Coef: []api.Int{"1"}, Const: "1", Mod: "-1"}, 1, api.ErrRange},
		{api.Fact{Op: api.FactEq, Coef: []api.Int{"1"}, Const: "1", Mod: ""}, 1, api.ErrForm},
		{api.Fact{Op: api.FactEq, Coef: []api.Int{"1"}, Const: "1", Mod: "00"}, 1, api.ErrForm},
	}
	for x, e := range badNumbers() {
		facts = append(facts, badFact{ge(x), 0, e}, badFact{eq("1", "1", x, "2"), 3, e}, badFact{mod(x, "1", "1"), 1, e}, badFact{mod("5", x, "1"), 1, e})
	}
	return facts
}
