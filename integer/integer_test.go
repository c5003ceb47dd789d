package integer

import (
	"math/big"
	"math/rand"
	"strings"
	"testing"

	"surveyor/api"
)

// edges are the numbers at which words end, and at which their products and sums do.
func edges() []string {
	return []string{
		"0", "1", "2", "3", "9", "10", "999999999", "1000000000", "1000000001", "4294967296", "999999999999999998", "999999999999999999",
		"1000000000000000000", "1000000000000000001", "1999999999999999998", "9223372036854775807", "9223372036854775808", "18446744073709551615", "18446744073709551616",
		"999999999999999999999999999", "1000000000000000000000000000", "999999999999999998000000000000000001",
		strings.Repeat("9", 100), "1" + strings.Repeat("0", 100), strings.Repeat("7", 5000),
	}
}

// samples returns numbers of both signs: edges, and random ones of up to so many digits.
func samples(random *rand.Rand, count, digits int) []Number {
	var list []Number
	for _, text := range edges() {
		list = append(list, Parse(api.Int(text)))
		if text != "0" {
			list = append(list, Parse(api.Int("-"+text)))
		}
	}
	for range count {
		limit := new(big.Int).Exp(big.NewInt(10), big.NewInt(int64(1+random.Intn(digits))), nil)
		value := new(big.Int).Rand(random, limit)
		if random.Intn(2) == 0 {
			value.Neg(value)
		}
		list = append(list, Parse(api.Int(value.String())))
	}
	return list
}

func toBig(x Number) *big.Int {
	value, _ := new(big.Int).SetString(string(x.Text()), 10)
	return value
}

// want compares a number with the expected one, and checks that it is a word exactly if it has at most 18 digits.
func want(t *testing.T, what string, got Number, wanted *big.Int) {
	t.Helper()
	if string(got.Text()) != wanted.String() {
		t.Fatalf("%s: got %s, want %s", what, got.Text(), wanted)
	}
	if fits := len(new(big.Int).Abs(wanted).String()) <= wordDigits; (got.long == nil) != fits || !fits && got.word != 0 {
		t.Fatalf("%s: %s is in the wrong form", what, wanted)
	}
}

func TestNotation(t *testing.T) {
	for _, text := range edges() {
		for _, text := range []string{text, "-" + text} {
			if text != "-0" {
				value, _ := new(big.Int).SetString(text, 10)
				x := Parse(api.Int(text))
				want(t, "Parse", x, value)
				want(t, "Neg", x.Neg(), new(big.Int).Neg(value))
				want(t, "Abs", x.Abs(), new(big.Int).Abs(value))
				if digits := len(strings.TrimPrefix(text, "-")); x.Digits() != digits {
					t.Errorf("%s has %d digits, got %d", text, digits, x.Digits())
				}
				if x.Sign() != value.Sign() || x.IsZero() != (value.Sign() == 0) {
					t.Errorf("the sign of %s is %d", text, x.Sign())
				}
			}
		}
	}
	for _, n := range []int{0, 1, -1, 123456789012} {
		want(t, "Of", Of(n), big.NewInt(int64(n)))
	}
	want(t, "the zero value", Number{}, big.NewInt(0))
}

func TestFraction(t *testing.T) {
	for _, text := range append(edges(), "-1/2", "7/3", "1000000000000000000/999999999999999999", "-"+strings.Repeat("7", 100)+"/1"+strings.Repeat("0", 99)) {
		value, _ := new(big.Rat).SetString(text)
		num, den := Fraction(api.Rat(text))
		want(t, "the numerator of "+text, num, value.Num())
		want(t, "the denominator of "+text, den, value.Denom())
	}
}

func TestOperations(t *testing.T) {
	list := samples(rand.New(rand.NewSource(1)), 150, 60)
	for _, x := range list {
		for _, y := range list {
			checkPair(t, x, y)
		}
	}
}

func checkPair(t *testing.T, x, y Number) {
	t.Helper()
	a, b := toBig(x), toBig(y)
	want(t, "Add", Add(x, y), new(big.Int).Add(a, b))
	want(t, "Sub", Sub(x, y), new(big.Int).Sub(a, b))
	product := new(big.Int).Mul(a, b)
	want(t, "Mul", Mul(x, y), product)
	divisor := new(big.Int).GCD(nil, nil, new(big.Int).Abs(a), new(big.Int).Abs(b))
	want(t, "Gcd", Gcd(x, y), divisor)
	if got := Compare(x, y); got != a.Cmp(b) {
		t.Fatalf("Compare of %s and %s: got %d", a, b, got)
	}
	if b.Sign() != 0 {
		want(t, "Divide", Divide(Mul(x, y), y), a)
		checkDivision(t, x, y)
		checkDivision(t, Mul(x, y), y)
	}
	if a.Sign() > 0 && b.Sign() > 0 {
		want(t, "Lcm", Lcm(x, y), product.Div(product, divisor))
	}
}

// checkDivision compares the quotient and the remainder with those that are rounded down: the Euclidean ones, of numbers with the opposite signs if the divisor is negative.
func checkDivision(t *testing.T, x, y Number) {
	t.Helper()
	a, b := toBig(x), toBig(y)
	if b.Sign() < 0 {
		a.Neg(a)
		b.Neg(b)
	}
	quotient, rest := a.DivMod(a, b, new(big.Int))
	if y.Sign() < 0 {
		rest.Neg(rest)
	}
	want(t, "Quo", Quo(x, y), quotient)
	want(t, "Rem", Rem(x, y), rest)
}

// TestMemory checks that an operation does not change its operands.
func TestMemory(t *testing.T) {
	list := samples(rand.New(rand.NewSource(2)), 10, 40)
	for _, x := range list {
		before := x.Text()
		for _, y := range list {
			checkPair(t, x, y)
			Mul(x, y).Neg().Abs()
		}
		if x.Text() != before {
			t.Errorf("%s became %s", before, x.Text())
		}
	}
}
