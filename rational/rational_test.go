package rational

import (
	"math/big"
	"math/rand"
	"strconv"
	"strings"
	"testing"

	"surveyor/api"
)

const longest = api.MaxLong

func repeat(digit string, n int) string {
	return strings.Repeat(digit, n)
}

func power(n int) string {
	return "1" + repeat("0", n)
}

// forms are texts that are not canonical, some of them with more digits than numbers may have.
func forms() []api.Rat {
	list := []api.Rat{
		"", "-", "/", "1/", "/2", "-/2", "1/-", "2/4", "-2/4", "6/3", "5/1", "3/1", "-3/1", "0/3", "0/1", "0/0", "1/0", "-1/0", "1/-2", "-1/-2", "1/-1",
		"01", "-0", "-0/5", "00", "1/02", "01/2", "+1/2", "1/+2", "1/2/3", "1//2", "1/2/", "x", "x/2", "1/x", "1.5", " 1/2", "1/2 ", "1 /2", "\xff/2", "1/\xff", "1\x00", "٣/٤",
	}
	for _, text := range []string{
		"2" + repeat("0", 5000) + "/4" + repeat("0", 5000),
		"-" + repeat("3", 5000) + "/9",
		"2/" + repeat("8", 5000),
		"0/" + repeat("7", 5000),
		repeat("7", 5000) + "/1",
		repeat("7", 5000) + "/0",
		repeat("7", 5000) + "/-3",
		repeat("7", 5000) + "/",
		repeat("7", 5000) + "/" + repeat("7", 5000),
		repeat("7", 5000) + "/x",
		"x/" + repeat("7", 5000),
		"0" + repeat("7", 5000) + "/2",
		"1/0" + repeat("7", 5000),
		power(9000) + "/" + repeat("5", 5000),
		repeat("7", 5000) + "x",
	} {
		list = append(list, api.Rat(text))
	}
	return list
}

// larges are canonical, but have too many digits.
func larges() []api.Rat {
	list := []api.Rat{}
	for _, text := range []string{
		power(longest),
		"-" + power(longest),
		repeat("7", 3*longest),
		power(longest) + "/3",
		"-" + power(longest) + "/7",
		"3/" + power(longest),
		"-3/" + power(longest),
		power(5000) + "/" + power(4999) + "1",
		repeat("9", 5000) + "/" + power(5000),
		power(longest-1) + "/" + repeat("9", longest+1),
	} {
		list = append(list, api.Rat(text))
	}
	return list
}

func invalid() map[api.Rat]api.Errno {
	list := map[api.Rat]api.Errno{}
	for _, a := range forms() {
		list[a] = api.ErrForm
	}
	for _, a := range larges() {
		list[a] = api.ErrLarge
	}
	return list
}

// samples are canonical numbers: small fractions, and longer ones.
func samples() []api.Rat {
	list := []api.Rat{}
	seen := map[string]bool{}
	add := func(x *big.Rat) {
		if text := x.RatString(); !seen[text] {
			seen[text] = true
			list = append(list, api.Rat(text))
		}
	}
	for den := int64(1); den <= 6; den++ {
		for num := int64(-7); num <= 7; num++ {
			add(big.NewRat(num, den))
		}
	}
	random := rand.New(rand.NewSource(1))
	for range 40 {
		x := new(big.Rat).SetFrac(randomInt(random, 1+random.Intn(40)), randomInt(random, 1+random.Intn(40)))
		add(x)
		add(new(big.Rat).Neg(x))
	}
	return list
}

// longSamples have as many digits as are allowed, or half of them.
func longSamples() []api.Rat {
	list := []api.Rat{}
	for _, text := range []string{
		repeat("9", longest),
		"-" + repeat("9", longest) + "/2",
		repeat("9", longest) + "/" + power(longest-1),
		"2/" + repeat("9", longest),
		"-1/" + power(longest-1),
		repeat("7", longest/2) + "/" + power(longest/2-1),
		"-" + repeat("1", longest/2) + "/" + power(longest/2),
		repeat("3", longest/2+1),
		"1/" + repeat("3", longest/2),
	} {
		list = append(list, api.Rat(text))
	}
	return list
}

func randomInt(random *rand.Rand, n int) *big.Int {
	limit := new(big.Int).Exp(big.NewInt(10), big.NewInt(int64(n)), nil)
	return limit.Add(big.NewInt(1), limit.Rand(random, limit))
}

func toBig(t *testing.T, a api.Rat) *big.Rat {
	t.Helper()
	value, ok := new(big.Rat).SetString(string(a))
	if !ok {
		t.Fatalf("%q is no number", a)
	}
	return value
}

func isLong(values ...*big.Int) bool {
	for _, value := range values {
		if len(new(big.Int).Abs(value).String()) > longest {
			return true
		}
	}
	return false
}

func short[T ~string](a T) string {
	if len(a) > 80 {
		return string(a[:40]) + ".." + string(a[len(a)-20:]) + " (" + strconv.Itoa(len(a)) + " bytes)"
	}
	return strconv.Quote(string(a))
}

func want[T ~string](t *testing.T, what string, got, wanted T, e, f api.Errno) {
	t.Helper()
	if got != wanted || e != f {
		t.Errorf("%s: got %s and %d, want %s and %d", what, short(got), e, short(wanted), f)
	}
}

// unary are the functions of one number, with texts as results.
func unary() map[string]func(a api.Rat) (api.Rat, api.Errno) {
	textOf := func(function func(a api.Rat) (api.Int, api.Errno)) func(a api.Rat) (api.Rat, api.Errno) {
		return func(a api.Rat) (api.Rat, api.Errno) {
			result, e := function(a)
			return api.Rat(result), e
		}
	}
	return map[string]func(a api.Rat) (api.Rat, api.Errno){"Neg": Neg, "Num": textOf(Num), "Den": textOf(Den), "Floor": textOf(Floor), "Ceil": textOf(Ceil)}
}

func binary() map[string]func(a, b api.Rat) (api.Rat, api.Errno) {
	return map[string]func(a, b api.Rat) (api.Rat, api.Errno){
		"Add": Add, "Sub": Sub, "Mul": Mul, "Div": Div,
		"Compare": func(a, b api.Rat) (api.Rat, api.Errno) {
			c, e := Compare(a, b)
			if e != api.OK && c == 0 {
				return "", e
			}
			return api.Rat(strconv.Itoa(c)), e
		},
	}
}

func TestP2_1Check(t *testing.T) {
	for _, a := range append(samples(), longSamples()...) {
		if e := Check(a); e != api.OK {
			t.Errorf("Check of %s: got %d", short(a), e)
		}
	}
	for a, e := range invalid() {
		if got := Check(a); got != e {
			t.Errorf("Check of %s: got %d, want %d", short(a), got, e)
		}
		for name, function := range unary() {
			got, f := function(a)
			want(t, name+" of "+short(a), got, "", f, e)
		}
	}
}

// TestP2_2ErrorOrder checks that the errors of a and b come first, in this order.
func TestP2_2ErrorOrder(t *testing.T) {
	for name, function := range binary() {
		for a, e := range invalid() {
			for _, b := range []api.Rat{"0", "2/3", api.Rat(repeat("9", longest)), "2/4", api.Rat(power(longest))} {
				got, f := function(a, b)
				want(t, name+" of "+short(a)+" and "+short(b), got, "", f, e)
			}
			for _, b := range []api.Rat{"0", "2/3", api.Rat(repeat("9", longest))} {
				got, f := function(b, a)
				want(t, name+" of "+short(b)+" and "+short(a), got, "", f, e)
			}
		}
	}
}

func TestP2_1Of(t *testing.T) {
	integers := []string{"0", "1", "-1", "2", "-3", "4", "6", "12", "-18", "999999999", "1000000000", "-99999999999999999999", "30000000000000000000000", power(longest - 1), "-" + repeat("9", longest), repeat("6", longest)}
	for _, num := range integers {
		for _, den := range integers {
			got, e := Of(api.Int(num), api.Int(den))
			what := "Of " + short(num) + " and " + short(den)
			if den == "0" {
				want(t, what, got, "", e, api.ErrZero)
				continue
			}
			wanted := new(big.Rat).Quo(toBig(t, api.Rat(num)), toBig(t, api.Rat(den)))
			want(t, what, got, api.Rat(wanted.RatString()), e, api.OK)
		}
	}
	for _, c := range []struct {
		num, den string
		e        api.Errno
	}{
		{"", "", api.ErrForm},
		{"1/2", "1", api.ErrForm},
		{"1", "1/2", api.ErrForm},
		{"01", power(longest), api.ErrForm},
		{power(longest), "01", api.ErrLarge},
		{power(longest), "0", api.ErrLarge},
		{"01", "0", api.ErrForm},
		{"1", "-0", api.ErrForm},
		{"1", "-" + power(longest), api.ErrLarge},
		{"0", "00", api.ErrForm},
		{"0", "0", api.ErrZero},
		{"-7", "0", api.ErrZero},
	} {
		got, e := Of(api.Int(c.num), api.Int(c.den))
		want(t, "Of "+short(c.num)+" and "+short(c.den), got, "", e, c.e)
	}
}

func TestP2_1Parts(t *testing.T) {
	for _, a := range append(samples(), longSamples()...) {
		x := toBig(t, a)
		num, e := Num(a)
		want(t, "Num of "+short(a), num, api.Int(x.Num().String()), e, api.OK)
		den, e := Den(a)
		want(t, "Den of "+short(a), den, api.Int(x.Denom().String()), e, api.OK)
		neg, e := Neg(a)
		want(t, "Neg of "+short(a), neg, api.Rat(new(big.Rat).Neg(x).RatString()), e, api.OK)
		down, rest := new(big.Int).DivMod(x.Num(), x.Denom(), new(big.Int))
		up := new(big.Int).Set(down)
		if rest.Sign() != 0 {
			up.Add(up, big.NewInt(1))
		}
		floor, e := Floor(a)
		want(t, "Floor of "+short(a), floor, api.Int(down.String()), e, api.OK)
		ceil, e := Ceil(a)
		want(t, "Ceil of "+short(a), ceil, api.Int(up.String()), e, api.OK)
	}
}

// expected is the result of an operation with its integers: ErrLarge if one of them is too long.
func expected(num, den *big.Int, others ...*big.Int) (api.Rat, api.Errno) {
	if isLong(num, den) || isLong(others...) {
		return "", api.ErrLarge
	}
	return api.Rat(new(big.Rat).SetFrac(num, den).RatString()), api.OK
}

func checkOperations(t *testing.T, a, b api.Rat) {
	t.Helper()
	p, q := toBig(t, a).Num(), toBig(t, a).Denom()
	r, s := toBig(t, b).Num(), toBig(t, b).Denom()
	what := " of " + short(a) + " and " + short(b)
	left, right, below := new(big.Int).Mul(p, s), new(big.Int).Mul(r, q), new(big.Int).Mul(q, s)

	wanted, f := expected(new(big.Int).Add(left, right), below, left, right)
	got, e := Add(a, b)
	want(t, "Add"+what, got, wanted, e, f)

	wanted, f = expected(new(big.Int).Sub(left, right), below, left, right)
	got, e = Sub(a, b)
	want(t, "Sub"+what, got, wanted, e, f)

	wanted, f = expected(new(big.Int).Mul(p, r), below)
	got, e = Mul(a, b)
	want(t, "Mul"+what, got, wanted, e, f)

	wanted, f = "", api.ErrZero
	if r.Sign() != 0 {
		wanted, f = expected(left, right)
	}
	got, e = Div(a, b)
	want(t, "Div"+what, got, wanted, e, f)

	c, e := Compare(a, b)
	order, f := left.Cmp(right), api.OK
	if isLong(left, right) {
		order, f = 0, api.ErrLarge
	}
	if c != order || e != f {
		t.Errorf("Compare%s: got %d and %d, want %d and %d", what, c, e, order, f)
	}
}

func TestP2_2Operations(t *testing.T) {
	list := samples()
	for _, a := range list {
		for _, b := range list {
			checkOperations(t, a, b)
		}
	}
}

func TestP2_2Long(t *testing.T) {
	list := append(longSamples(), "0", "1", "-1", "5/2", "-1/10", "7/3", "999999999999/1000000000000")
	for _, a := range list {
		for _, b := range list {
			checkOperations(t, a, b)
		}
	}
}

// TestP2_2Limits has, for each of the named integers, arguments for which it alone is too long, or has just the most digits.
func TestP2_2Limits(t *testing.T) {
	nines, half := repeat("9", longest), repeat("9", longest/2)
	for _, c := range []struct {
		name     string
		function func(a, b api.Rat) (api.Rat, api.Errno)
		a, b     string
		e        api.Errno
	}{
		{"Add: p s", Add, nines, "1/2", api.ErrLarge},
		{"Add: p s", Add, nines[1:], "1/2", api.OK},
		{"Sub: r q", Sub, "1/3", nines, api.ErrLarge},
		{"Sub: r q", Sub, "1/3", "-" + nines[1:], api.OK},
		{"Add: sum", Add, nines, "1", api.ErrLarge},
		{"Add: sum", Add, nines, "-1", api.OK},
		{"Sub: difference", Sub, "-" + nines, "1", api.ErrLarge},
		{"Sub: difference", Sub, "-" + nines, "-1", api.OK},
		{"Add: q s", Add, "1/" + power(longest/2), "1/" + power(longest/2), api.ErrLarge},
		{"Add: q s", Add, "1/" + power(longest/2), "1/" + power(longest/2-1), api.OK},
		{"Mul: p r", Mul, half + "7", half, api.ErrLarge},
		{"Mul: p r", Mul, half, half, api.OK},
		{"Mul: q s", Mul, power(longest/2) + "/33", "1/" + power(longest-1), api.ErrLarge},
		{"Mul: q s", Mul, power(longest/2) + "/3", "1/" + power(longest-1), api.OK},
		{"Mul: lowest terms", Mul, nines + "/2", "2/" + nines, api.ErrLarge},
		{"Div: p s", Div, half + "7", "1/" + half, api.ErrLarge},
		{"Div: p s", Div, half, "1/" + half, api.OK},
		{"Div: q r", Div, "1/" + half, half + "7", api.ErrLarge},
		{"Div: q r", Div, "1/" + half, half, api.OK},
		{"Div: zero", Div, nines, "0", api.ErrZero},
		{"Div: zero", Div, "1/" + nines, "0", api.ErrZero},
	} {
		got, e := c.function(api.Rat(c.a), api.Rat(c.b))
		if e != c.e || (e == api.OK) != (got != "") {
			t.Errorf("%s: got %s and %d, want %d", c.name, short(got), e, c.e)
		}
	}
	for _, c := range []struct {
		a, b string
		c    int
		e    api.Errno
	}{
		{nines, "1/2", 0, api.ErrLarge},
		{"-1/3", nines, 0, api.ErrLarge},
		{nines, "-" + nines, 1, api.OK},
		{nines, "1/9", 0, api.ErrLarge},
		{"0", "1/" + nines, -1, api.OK},
		{"1/" + nines, "1/" + nines, 0, api.OK},
		{nines[1:], nines[1:] + "/2", 1, api.OK},
	} {
		got, e := Compare(api.Rat(c.a), api.Rat(c.b))
		if got != c.c || e != c.e {
			t.Errorf("Compare of %s and %s: got %d and %d, want %d and %d", short(c.a), short(c.b), got, e, c.c, c.e)
		}
	}
}

// TestExamples has the examples of the chapter (P2.1 and P2.2).
func TestExamples(t *testing.T) {
	ok := must(t)
	same(t, "Of", ok(Of("6", "-4")), "-3/2")
	floor, _ := Floor("-3/2")
	ceil, _ := Ceil("-3/2")
	num, _ := Num("-3/2")
	den, _ := Den("-3/2")
	if floor != "-2" || ceil != "-1" || num != "-3" || den != "2" {
		t.Errorf("parts of -3/2: got %s, %s, %s, %s", floor, ceil, num, den)
	}
	same(t, "1/2 + 1/3", ok(Add("1/2", "1/3")), "5/6")
	same(t, "1/2 : -3", ok(Div("1/2", "-3")), "-1/6")
	if c, e := Compare("1/3", "2/5"); c != -1 || e != api.OK {
		t.Errorf("Compare of 1/3 and 2/5: got %d and %d", c, e)
	}
}

// must returns a result without an error.
func must(t *testing.T) func(a api.Rat, e api.Errno) api.Rat {
	return func(a api.Rat, e api.Errno) api.Rat {
		t.Helper()
		if e != api.OK {
			t.Fatalf("error %d", e)
		}
		return a
	}
}

func same(t *testing.T, law string, a, b api.Rat) {
	t.Helper()
	if a != b {
		t.Errorf("%s: %s is not %s", law, short(a), short(b))
	}
}

func compare(t *testing.T, a, b api.Rat) int {
	t.Helper()
	c, e := Compare(a, b)
	if e != api.OK {
		t.Fatalf("Compare of %s and %s: error %d", short(a), short(b), e)
	}
	return c
}

func TestP2_3Field(t *testing.T) {
	random, ok := rand.New(rand.NewSource(2)), must(t)
	list := samples()
	for range 4000 {
		a, b, c := list[random.Intn(len(list))], list[random.Intn(len(list))], list[random.Intn(len(list))]
		sum, product := ok(Add(a, b)), ok(Mul(a, b))
		same(t, "a + b = b + a", sum, ok(Add(b, a)))
		same(t, "a b = b a", product, ok(Mul(b, a)))
		same(t, "(a + b) + c = a + (b + c)", ok(Add(sum, c)), ok(Add(a, ok(Add(b, c)))))
		same(t, "(a b) c = a (b c)", ok(Mul(product, c)), ok(Mul(a, ok(Mul(b, c)))))
		same(t, "(a + b) c = a c + b c", ok(Mul(sum, c)), ok(Add(ok(Mul(a, c)), ok(Mul(b, c)))))
		same(t, "a + 0 = a", ok(Add(a, "0")), a)
		same(t, "a 1 = a", ok(Mul(a, "1")), a)
		same(t, "a + b - b = a", ok(Sub(sum, b)), a)
		same(t, "a + -a = 0", ok(Add(a, ok(Neg(a)))), "0")
		if b != "0" {
			same(t, "a b : b = a", ok(Div(product, b)), a)
		}
		if before := compare(t, a, b); before != -compare(t, b, a) || before != compare(t, ok(Add(a, c)), ok(Add(b, c))) || (before == 0) != (a == b) {
			t.Errorf("the order of %s and %s is %d", a, b, before)
		}
		if positive := ok(Mul(c, c)); positive != "0" && compare(t, ok(Mul(a, positive)), ok(Mul(b, positive))) != compare(t, a, b) {
			t.Errorf("the order of %s and %s changes with the factor %s", a, b, positive)
		}
		if compare(t, a, b) <= 0 && compare(t, b, c) <= 0 && compare(t, a, c) > 0 {
			t.Errorf("the order of %s, %s and %s is not total", a, b, c)
		}
	}
}

func TestP2_3Quotients(t *testing.T) {
	for _, a := range append(samples(), longSamples()...) {
		num, _ := Num(a)
		den, _ := Den(a)
		same(t, "numerator : denominator", must(t)(Of(num, den)), a)
		same(t, "numerator : denominator", must(t)(Div(api.Rat(num), api.Rat(den))), a)
	}
	for p := -6; p <= 6; p++ {
		for q := -6; q <= 6; q++ {
			for r := -6; r <= 6; r++ {
				for s := -6; s <= 6; s++ {
					if q != 0 && s != 0 && (quotient(t, p, q) == quotient(t, r, s)) != (p*s == r*q) {
						t.Errorf("%d : %d and %d : %d", p, q, r, s)
					}
				}
			}
		}
	}
}

func quotient(t *testing.T, num, den int) api.Rat {
	t.Helper()
	return must(t)(Of(api.Int(strconv.Itoa(num)), api.Int(strconv.Itoa(den))))
}

// TestP1 calls all functions with all kinds of arguments: they return the same twice, and an empty result beside an error.
func TestP1(t *testing.T) {
	list := append(forms(), larges()...)
	list = append(list, longSamples()...)
	list = append(list, "0", "-1", "7/3")
	for _, a := range list {
		for name, function := range unary() {
			checkResult(t, name+" of "+short(a), func() (api.Rat, api.Errno) { return function(a) })
		}
		for _, b := range list {
			for name, function := range binary() {
				checkResult(t, name+" of "+short(a)+" and "+short(b), func() (api.Rat, api.Errno) { return function(a, b) })
			}
			checkResult(t, "Of "+short(a)+" and "+short(b), func() (api.Rat, api.Errno) { return Of(api.Int(a), api.Int(b)) })
		}
	}
}

func checkResult(t *testing.T, what string, call func() (api.Rat, api.Errno)) {
	t.Helper()
	result, e := call()
	again, f := call()
	if result != again || e != f {
		t.Errorf("%s: two results", what)
	}
	if e == api.OK && Check(result) != api.OK || e != api.OK && result != "" {
		t.Errorf("%s: got %s and %d", what, short(result), e)
	}
}
