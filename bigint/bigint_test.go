package bigint

import (
	"math"
	"math/big"
	"math/rand"
	"strconv"
	"strings"
	"testing"

	"surveyor/api"
)

const longest = api.MaxLong

func repeat(digit string, n int) api.Int {
	return api.Int(strings.Repeat(digit, n))
}

// forms are texts that are not canonical.
func forms() []api.Int {
	return []api.Int{
		"", "-", "--1", "-0", "00", "007", "-007", "+1", "+", "1-", "1a", "a", " 1", "1 ", "1\n", "\x00", "\xff", "1\xff",
		"0x1", "1_000", "1.0", "1e3", "1/2", "-01", "٣", "-a", "-\xff", "0-", "0" + repeat("9", longest), repeat("9", longest) + "x", repeat("9", longest+10) + "-",
	}
}

// larges are canonical, but have too many digits.
func larges() []api.Int {
	return []api.Int{repeat("9", longest+1), "-" + repeat("1", longest+1), "1" + repeat("0", longest), "-" + repeat("7", 3*longest)}
}

// invalid returns the arguments that Check refuses, with their errors.
func invalid() map[api.Int]api.Errno {
	list := map[api.Int]api.Errno{}
	for _, a := range forms() {
		list[a] = api.ErrForm
	}
	for _, a := range larges() {
		list[a] = api.ErrLarge
	}
	return list
}

// samples are canonical integers of different lengths, with their opposites: around limbs and words, and random ones.
func samples() []api.Int {
	list := []api.Int{"0"}
	add := func(a api.Int) { list = append(list, a, "-"+a) }
	for n := 1; n <= 12; n++ {
		add(api.Int(strconv.Itoa(n)))
	}
	for _, n := range []int{8, 9, 10, 17, 18, 19, 20, 27, 28, 36} {
		add(repeat("9", n))
		add("1" + repeat("0", n))
		add("1" + repeat("0", n-1) + "1")
	}
	for _, a := range []api.Int{"2147483647", "2147483648", "4294967296", "9223372036854775807", "9223372036854775808", "18446744073709551616", "500000000000000000000000000"} {
		add(a)
	}
	random := rand.New(rand.NewSource(1))
	for range 25 {
		add(randomInt(random, 1+random.Intn(60)))
	}
	return list
}

// longSamples have hundreds or thousands of digits.
func longSamples() []api.Int {
	random := rand.New(rand.NewSource(2))
	list := []api.Int{repeat("9", longest), "-" + repeat("9", longest), "1" + repeat("0", longest-1), "-1" + repeat("0", longest/2)}
	for _, n := range []int{100, 500, longest/2 - 1, longest / 2, longest/2 + 1, longest - 1, longest} {
		a := randomInt(random, n)
		list = append(list, a, "-"+a)
	}
	return list
}

func randomInt(random *rand.Rand, n int) api.Int {
	digits := make([]byte, n)
	for i := range digits {
		digits[i] = byte('0' + random.Intn(10))
	}
	digits[0] = byte('1' + random.Intn(9))
	return api.Int(digits)
}

func toBig(t *testing.T, a api.Int) *big.Int {
	t.Helper()
	value, ok := new(big.Int).SetString(string(a), 10)
	if !ok {
		t.Fatalf("%q is no integer", a)
	}
	return value
}

// fitting is the result that the document asks for, by the result of package big.
func fitting(value *big.Int) (api.Int, api.Errno) {
	text := value.String()
	if len(strings.TrimPrefix(text, "-")) > longest {
		return "", api.ErrLarge
	}
	return api.Int(text), api.OK
}

func short(a api.Int) string {
	if len(a) > 80 {
		return string(a[:40]) + ".." + string(a[len(a)-10:]) + " (" + strconv.Itoa(len(a)) + " bytes)"
	}
	return strconv.Quote(string(a))
}

func want(t *testing.T, what string, got, wanted api.Int, e, f api.Errno) {
	t.Helper()
	if got != wanted || e != f {
		t.Errorf("%s: got %s and %d, want %s and %d", what, short(got), e, short(wanted), f)
	}
}

func wantInt(t *testing.T, what string, got, wanted int, e, f api.Errno) {
	t.Helper()
	if got != wanted || e != f {
		t.Errorf("%s: got %d and %d, want %d and %d", what, got, e, wanted, f)
	}
}

// unary are the functions of one integer with an integer as result.
func unary() map[string]func(a api.Int) (api.Int, api.Errno) {
	return map[string]func(a api.Int) (api.Int, api.Errno){
		"Neg": Neg,
		"Abs": Abs,
		"Pow": func(a api.Int) (api.Int, api.Errno) { return Pow(a, 2) },
	}
}

// binary are the functions of two integers with an integer as first result.
func binary() map[string]func(a, b api.Int) (api.Int, api.Errno) {
	return map[string]func(a, b api.Int) (api.Int, api.Errno){
		"Add": Add, "Sub": Sub, "Mul": Mul, "Quo": Quo, "Rem": Rem, "Gcd": Gcd, "Lcm": Lcm, "Min": Min, "Max": Max,
		"Bezout": func(a, b api.Int) (api.Int, api.Errno) {
			g, x, y, e := Bezout(a, b)
			if e != api.OK && (x != "" || y != "") {
				return x + y, e
			}
			return g, e
		},
		"Compare": func(a, b api.Int) (api.Int, api.Errno) {
			c, e := Compare(a, b)
			if e != api.OK && c == 0 {
				return "", e
			}
			return Of(c), e
		},
	}
}

// TestP1_1Check has canonical integers, others, and those that are too long, also as arguments of the other functions.
func TestP1_1Check(t *testing.T) {
	for _, a := range append(samples(), longSamples()...) {
		if e := Check(a); e != api.OK {
			t.Errorf("Check of %s: got %d", short(a), e)
		}
	}
	for a, e := range invalid() {
		if got := Check(a); got != e {
			t.Errorf("Check of %s: got %d, want %d", short(a), got, e)
		}
		s, f := Sign(a)
		wantInt(t, "Sign of "+short(a), s, 0, f, e)
		n, f := Small(a)
		wantInt(t, "Small of "+short(a), n, 0, f, e)
		for name, function := range unary() {
			result, f := function(a)
			want(t, name+" of "+short(a), result, "", f, e)
		}
	}
}

// TestErrorOrder checks that the errors of the arguments come first, from left to right (P1.1 and P1.2).
func TestErrorOrder(t *testing.T) {
	for name, function := range binary() {
		for a, e := range invalid() {
			for _, b := range []api.Int{"0", "5", repeat("9", longest), "00", repeat("9", longest+1)} {
				result, f := function(a, b)
				want(t, name+" of "+short(a)+" and "+short(b), result, "", f, e)
			}
			for _, b := range []api.Int{"0", "5", repeat("9", longest)} {
				result, f := function(b, a)
				want(t, name+" of "+short(b)+" and "+short(a), result, "", f, e)
			}
		}
	}
	for a, e := range invalid() {
		for _, n := range []int{-1, 0, 1, api.MaxNumber, api.MaxNumber + 1} {
			result, f := Pow(a, n)
			want(t, "Pow of "+short(a), result, "", f, e)
		}
	}
}

func TestP1_1Order(t *testing.T) {
	list := append(samples(), longSamples()...)
	for _, a := range list {
		for _, b := range list {
			x, y := toBig(t, a), toBig(t, b)
			what := " of " + short(a) + " and " + short(b)
			c, e := Compare(a, b)
			wantInt(t, "Compare"+what, c, x.Cmp(y), e, api.OK)
			least, greatest := a, b
			if x.Cmp(y) > 0 {
				least, greatest = b, a
			}
			result, e := Min(a, b)
			want(t, "Min"+what, result, least, e, api.OK)
			result, e = Max(a, b)
			want(t, "Max"+what, result, greatest, e, api.OK)
		}
	}
}

func TestP1_1Signs(t *testing.T) {
	for _, a := range append(samples(), longSamples()...) {
		x := toBig(t, a)
		s, e := Sign(a)
		wantInt(t, "Sign of "+short(a), s, x.Sign(), e, api.OK)
		n, e := Neg(a)
		want(t, "Neg of "+short(a), n, api.Int(new(big.Int).Neg(x).String()), e, api.OK)
		m, e := Abs(a)
		want(t, "Abs of "+short(a), m, api.Int(new(big.Int).Abs(x).String()), e, api.OK)
	}
}

func TestP1_1Small(t *testing.T) {
	for _, n := range []int{0, 1, -1, 9, 10, -10, 999999999, 1000000000, -1000000000, api.MaxNumber, math.MaxInt32, math.MinInt32, math.MaxInt, math.MinInt, math.MinInt + 1} {
		a := Of(n)
		if a != api.Int(strconv.Itoa(n)) || Check(a) != api.OK {
			t.Errorf("Of %d: got %s", n, a)
		}
		m, e := Small(a)
		if n > api.MaxNumber || n < -api.MaxNumber {
			wantInt(t, "Small of "+short(a), m, 0, e, api.ErrRange)
		} else {
			wantInt(t, "Small of "+short(a), m, n, e, api.OK)
		}
	}
	for _, c := range []struct {
		a api.Int
		n int
		e api.Errno
	}{
		{"1048576", 1048576, api.OK},
		{"-1048576", -1048576, api.OK},
		{"1048575", 1048575, api.OK},
		{"1048577", 0, api.ErrRange},
		{"-1048577", 0, api.ErrRange},
		{"9999999", 0, api.ErrRange},
		{"10000000", 0, api.ErrRange},
		{"999999", 999999, api.OK},
		{"18446744073709551616", 0, api.ErrRange},
		{"-18446744073709551617", 0, api.ErrRange},
		{repeat("1", longest), 0, api.ErrRange},
	} {
		n, e := Small(c.a)
		wantInt(t, "Small of "+short(c.a), n, c.n, e, c.e)
	}
}

// floor returns the quotient, rounded down, and the remainder.
func floor(x, y *big.Int) (*big.Int, *big.Int) {
	q, r := new(big.Int).QuoRem(x, y, new(big.Int))
	if r.Sign() != 0 && r.Sign() != y.Sign() {
		q.Sub(q, big.NewInt(1))
		r.Add(r, y)
	}
	return q, r
}

func checkArithmetic(t *testing.T, a, b api.Int) {
	t.Helper()
	x, y := toBig(t, a), toBig(t, b)
	what := " of " + short(a) + " and " + short(b)
	for _, c := range []struct {
		name     string
		function func(a, b api.Int) (api.Int, api.Errno)
		wanted   *big.Int
	}{
		{"Add", Add, new(big.Int).Add(x, y)},
		{"Sub", Sub, new(big.Int).Sub(x, y)},
		{"Mul", Mul, new(big.Int).Mul(x, y)},
		{"Gcd", Gcd, divisor(x, y)},
		{"Lcm", Lcm, multiple(x, y)},
	} {
		got, e := c.function(a, b)
		wanted, f := fitting(c.wanted)
		want(t, c.name+what, got, wanted, e, f)
	}
	q, e := Quo(a, b)
	r, f := Rem(a, b)
	if y.Sign() == 0 {
		want(t, "Quo"+what, q, "", e, api.ErrZero)
		want(t, "Rem"+what, r, "", f, api.ErrZero)
		return
	}
	quotient, rest := floor(x, y)
	want(t, "Quo"+what, q, api.Int(quotient.String()), e, api.OK)
	want(t, "Rem"+what, r, api.Int(rest.String()), f, api.OK)
}

func divisor(x, y *big.Int) *big.Int {
	return new(big.Int).GCD(nil, nil, new(big.Int).Abs(x), new(big.Int).Abs(y))
}

func multiple(x, y *big.Int) *big.Int {
	if x.Sign() == 0 || y.Sign() == 0 {
		return new(big.Int)
	}
	product := new(big.Int).Mul(x, y)
	return product.Quo(product.Abs(product), divisor(x, y))
}

// checkBezout checks the equation, and that x is the coefficient that the document chooses.
func checkBezout(t *testing.T, a, b api.Int) {
	t.Helper()
	g, x, y, e := Bezout(a, b)
	what := "Bezout of " + short(a) + " and " + short(b)
	left, right := toBig(t, a), toBig(t, b)
	wanted := divisor(left, right)
	want(t, what, g, api.Int(wanted.String()), e, api.OK)
	p, q := toBig(t, x), toBig(t, y)
	if Check(x) != api.OK || Check(y) != api.OK {
		t.Errorf("%s: %s and %s are not canonical", what, short(x), short(y))
	}
	sum := new(big.Int).Add(new(big.Int).Mul(left, p), new(big.Int).Mul(right, q))
	if sum.Cmp(wanted) != 0 {
		t.Errorf("%s: %s and %s do not yield %s", what, short(x), short(y), short(g))
	}
	if right.Sign() == 0 {
		if p.Int64() != int64(left.Sign()) || q.Sign() != 0 {
			t.Errorf("%s: got %s and %s", what, short(x), short(y))
		}
		return
	}
	bound := new(big.Int).Quo(new(big.Int).Abs(right), wanted)
	if p.Sign() < 0 || p.Cmp(bound) >= 0 {
		t.Errorf("%s: %s is not from 0 to %s less 1", what, short(x), bound)
	}
}

func TestP1_2Arithmetic(t *testing.T) {
	list := samples()
	for _, a := range list {
		for _, b := range list {
			checkArithmetic(t, a, b)
			checkBezout(t, a, b)
		}
	}
	for a := -40; a <= 40; a++ {
		for b := -40; b <= 40; b++ {
			checkArithmetic(t, Of(a), Of(b))
			checkBezout(t, Of(a), Of(b))
		}
	}
}

func TestP1_2Long(t *testing.T) {
	list := append(longSamples(), "0", "1", "-1", "2", "-9", "10", "999999999", "-1000000000", "12345678901234567890")
	for _, a := range list {
		for _, b := range list {
			checkArithmetic(t, a, b)
		}
	}
	random := rand.New(rand.NewSource(3))
	for _, n := range []int{100, 700, longest} {
		a, b, c := randomInt(random, n), "-"+randomInt(random, n/2), randomInt(random, n/2)
		checkBezout(t, a, b)
		checkBezout(t, b, a)
		multiple, _ := Mul(b, c)
		checkBezout(t, multiple, b)
		checkBezout(t, a, repeat("9", longest))
	}
}

// TestP1_2Limits has the results with the most digits, and the least ones with more.
func TestP1_2Limits(t *testing.T) {
	nines := repeat("9", longest)
	half := "1" + repeat("0", longest/2)
	for _, c := range []struct {
		name     string
		function func(a, b api.Int) (api.Int, api.Errno)
		a, b     api.Int
		wanted   api.Int
		e        api.Errno
	}{
		{"Add", Add, nines, "1", "", api.ErrLarge},
		{"Add", Add, nines, "0", nines, api.OK},
		{"Add", Add, "-" + nines, "-1", "", api.ErrLarge},
		{"Add", Add, nines[1:], "1", "1" + repeat("0", longest-1), api.OK},
		{"Sub", Sub, "-" + nines, "1", "", api.ErrLarge},
		{"Sub", Sub, nines, nines, "0", api.OK},
		{"Sub", Sub, "1", "-" + nines, "", api.ErrLarge},
		{"Mul", Mul, half, half, "", api.ErrLarge},
		{"Mul", Mul, half, "-" + half[:longest/2], "-1" + repeat("0", longest-1), api.OK},
		{"Mul", Mul, nines, "-1", "-" + nines, api.OK},
		{"Mul", Mul, nines, "0", "0", api.OK},
		{"Quo", Quo, "1", "-" + nines, "-1", api.OK},
		{"Rem", Rem, "-1", nines, nines[:longest-1] + "8", api.OK},
		{"Quo", Quo, "-" + nines, "1", "-" + nines, api.OK},
		{"Lcm", Lcm, nines, "-" + nines, nines, api.OK},
		{"Lcm", Lcm, nines, "2", "", api.ErrLarge},
		{"Lcm", Lcm, "0", nines, "0", api.OK},
		{"Lcm", Lcm, nines, "0", "0", api.OK},
	} {
		got, e := c.function(c.a, c.b)
		want(t, c.name+" of "+short(c.a)+" and "+short(c.b), got, c.wanted, e, c.e)
	}
}

func TestP1_2Bezout(t *testing.T) {
	for _, c := range [][5]api.Int{
		{"12", "-18", "6", "2", "1"},
		{"0", "0", "0", "0", "0"},
		{"-5", "0", "5", "-1", "0"},
		{"5", "0", "5", "1", "0"},
		{"0", "-5", "5", "0", "-1"},
		{"0", "5", "5", "0", "1"},
		{"5", "5", "5", "0", "1"},
		{"-5", "5", "5", "0", "1"},
		{"7", "1", "1", "0", "1"},
		{"7", "-1", "1", "0", "-1"},
		{"4", "6", "2", "2", "-1"},
		{"-4", "6", "2", "1", "1"},
	} {
		g, x, y, e := Bezout(c[0], c[1])
		if [3]api.Int{g, x, y} != [3]api.Int{c[2], c[3], c[4]} || e != api.OK {
			t.Errorf("Bezout of %s and %s: got %s, %s, %s and %d", c[0], c[1], g, x, y, e)
		}
	}
}

func TestP1_2Pow(t *testing.T) {
	for _, a := range samples() {
		for n := range 12 {
			got, e := Pow(a, n)
			want(t, "Pow of "+short(a), got, api.Int(new(big.Int).Exp(toBig(t, a), big.NewInt(int64(n)), nil).String()), e, api.OK)
		}
	}
	for _, c := range []struct {
		a      api.Int
		n      int
		wanted api.Int
		e      api.Errno
	}{
		{"2", 64, "18446744073709551616", api.OK},
		{"0", 0, "1", api.OK},
		{"0", api.MaxNumber, "0", api.OK},
		{"1", api.MaxNumber, "1", api.OK},
		{"-1", api.MaxNumber, "1", api.OK},
		{"-1", api.MaxNumber - 1, "-1", api.OK},
		{"2", api.MaxNumber, "", api.ErrLarge},
		{"-2", api.MaxNumber - 1, "", api.ErrLarge},
		{repeat("9", longest), api.MaxNumber, "", api.ErrLarge},
		{repeat("9", longest), 1, repeat("9", longest), api.OK},
		{repeat("9", longest), 0, "1", api.OK},
		{"10", longest - 1, "1" + repeat("0", longest-1), api.OK},
		{"10", longest, "", api.ErrLarge},
		{"-10", longest - 1, "-1" + repeat("0", longest-1), api.OK},
		{"2", -1, "", api.ErrRange},
		{"2", math.MinInt, "", api.ErrRange},
		{"0", api.MaxNumber + 1, "", api.ErrRange},
		{"1", math.MaxInt, "", api.ErrRange},
	} {
		got, e := Pow(c.a, c.n)
		want(t, "Pow of "+short(c.a)+" and "+strconv.Itoa(c.n), got, c.wanted, e, c.e)
	}
	last, first := 0, 0
	for n := 13590; n < 13620; n++ {
		wanted, f := fitting(new(big.Int).Exp(big.NewInt(2), big.NewInt(int64(n)), nil))
		got, e := Pow("2", n)
		want(t, "Pow of 2 and "+strconv.Itoa(n), got, wanted, e, f)
		if f == api.OK {
			last = n
		} else {
			first = n
		}
	}
	if last == 0 || first == 0 {
		t.Errorf("the limit is not between the exponents")
	}
}

// must returns the result of an operation without an error.
func must(t *testing.T) func(a api.Int, e api.Errno) api.Int {
	return func(a api.Int, e api.Errno) api.Int {
		t.Helper()
		if e != api.OK {
			t.Fatalf("error %d", e)
		}
		return a
	}
}

func same(t *testing.T, law string, a, b api.Int) {
	t.Helper()
	if a != b {
		t.Errorf("%s: %s is not %s", law, short(a), short(b))
	}
}

func TestP1_3Ring(t *testing.T) {
	random, ok := rand.New(rand.NewSource(4)), must(t)
	list := append(samples(), longSamples()[4:8]...)
	for range 3000 {
		a, b, c := list[random.Intn(len(list))], list[random.Intn(len(list))], list[random.Intn(len(list))]
		sum, product := ok(Add(a, b)), ok(Mul(a, b))
		same(t, "a + b = b + a", sum, ok(Add(b, a)))
		same(t, "a b = b a", product, ok(Mul(b, a)))
		same(t, "(a + b) + c = a + (b + c)", ok(Add(sum, c)), ok(Add(a, ok(Add(b, c)))))
		same(t, "(a b) c = a (b c)", ok(Mul(product, c)), ok(Mul(a, ok(Mul(b, c)))))
		same(t, "(a + b) c = a c + b c", ok(Mul(sum, c)), ok(Add(ok(Mul(a, c)), ok(Mul(b, c)))))
		same(t, "a + 0 = a", ok(Add(a, "0")), a)
		same(t, "a 1 = a", ok(Mul(a, "1")), a)
		same(t, "a + -a = 0", ok(Add(a, ok(Neg(a)))), "0")
		same(t, "a - b = a + -b", ok(Sub(a, b)), ok(Add(a, ok(Neg(b)))))
		same(t, "|a| |b| = |a b|", ok(Mul(ok(Abs(a)), ok(Abs(b)))), ok(Abs(product)))
		before, _ := Compare(a, b)
		after, _ := Compare(ok(Add(a, c)), ok(Add(b, c)))
		if before != after {
			t.Errorf("the order of %s and %s changes with %s", short(a), short(b), short(c))
		}
		sign, _ := Sign(c)
		after, _ = Compare(ok(Mul(a, c)), ok(Mul(b, c)))
		if before*sign != after {
			t.Errorf("the order of multiples of %s and %s by %s is %d", short(a), short(b), short(c), after)
		}
	}
}

func TestP1_3Division(t *testing.T) {
	ok := must(t)
	list := append(samples(), longSamples()...)
	for _, a := range list {
		for _, b := range list {
			g := ok(Gcd(a, b))
			for _, x := range []api.Int{a, b} {
				if g != "0" && ok(Rem(x, g)) != "0" {
					t.Errorf("%s does not divide %s", short(g), short(x))
				}
			}
			if b == "0" {
				continue
			}
			q, r := ok(Quo(a, b)), ok(Rem(a, b))
			product := new(big.Int).Mul(toBig(t, b), toBig(t, q))
			same(t, "b q + r = a", api.Int(product.Add(product, toBig(t, r)).String()), a)
			sign, _ := Sign(r)
			divisorSign, _ := Sign(b)
			less, _ := Compare(ok(Abs(r)), ok(Abs(b)))
			if sign*divisorSign < 0 || less >= 0 {
				t.Errorf("%s is no remainder of %s and %s", short(r), short(a), short(b))
			}
		}
	}
	for _, d := range []api.Int{"6", "-35", "1000000000", "99999999999999999999", repeat("7", 600)} {
		for _, a := range samples() {
			for _, b := range []api.Int{"4", "-1000000001", "123456789012345678901234567890"} {
				if rest := ok(Rem(ok(Gcd(ok(Mul(a, d)), ok(Mul(b, d)))), d)); rest != "0" {
					t.Errorf("the common divisor %s does not divide the greatest one", short(d))
				}
			}
		}
	}
}

func TestP1_3Powers(t *testing.T) {
	ok := must(t)
	for _, a := range []api.Int{"0", "1", "-1", "2", "-3", "10", "999999999", "-1000000000", "12345678901234567890"} {
		for m := range 20 {
			for n := range 20 {
				same(t, "powers", ok(Mul(ok(Pow(a, m)), ok(Pow(a, n)))), ok(Pow(a, m+n)))
			}
		}
	}
}

func TestP1_3SmallNumbers(t *testing.T) {
	ok := must(t)
	for a := -60; a <= 60; a++ {
		for b := -60; b <= 60; b++ {
			same(t, "sum of ints", ok(Add(Of(a), Of(b))), Of(a+b))
			same(t, "difference of ints", ok(Sub(Of(a), Of(b))), Of(a-b))
			same(t, "product of ints", ok(Mul(Of(a), Of(b))), Of(a*b))
			c, _ := Compare(Of(a), Of(b))
			if c > 0 != (a > b) || c < 0 != (a < b) {
				t.Errorf("Compare of %d and %d: got %d", a, b, c)
			}
			if b > 0 {
				same(t, "quotient of ints", ok(Quo(Of(a), Of(b))), Of((a-(a%b+b)%b)/b))
				same(t, "remainder of ints", ok(Rem(Of(a), Of(b))), Of((a%b+b)%b))
			}
		}
	}
}

// TestP1 calls all functions with all kinds of arguments: they return, and their results are canonical, or zero values beside an error.
func TestP1(t *testing.T) {
	list := append(forms(), larges()...)
	list = append(list, "0", "-1", "7", "1000000000", "-18446744073709551616", repeat("9", longest), "-"+repeat("9", longest))
	for _, a := range list {
		for name, function := range unary() {
			checkResult(t, name+" of "+short(a), func() (api.Int, api.Errno) { return function(a) })
		}
		for _, b := range list {
			for name, function := range binary() {
				checkResult(t, name+" of "+short(a)+" and "+short(b), func() (api.Int, api.Errno) { return function(a, b) })
			}
		}
	}
}

func checkResult(t *testing.T, what string, call func() (api.Int, api.Errno)) {
	t.Helper()
	result, e := call()
	again, f := call()
	if result != again || e != f {
		t.Errorf("%s: two results", what)
	}
	if e == api.OK && Check(result) != api.OK || e != api.OK && result != "" {
		t.Errorf("%s: got %s and %d", what, short(result), e)
	}
}
