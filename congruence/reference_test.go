package congruence

import (
	"fmt"
	"math/big"
	"math/rand"
	"strconv"
	"strings"
	"testing"

	"surveyor/api"
)

// This file has the references that results are compared with, and classes as arguments.

var (
	empty, top = api.Congruence{Empty: true}, api.Congruence{Mod: "1", Rem: "0"}
	zero       api.Congruence // what is returned beside an error
	nines      = api.Int(strings.Repeat("9", api.MaxDigits))
	huge       = nines + "9"                                       // has too many digits for a class
	power      = api.Int("1" + strings.Repeat("0", api.MaxDigits)) // is the least number with too many digits
	longest    = api.Int(strings.Repeat("9", api.MaxLong))
	tooLong    = longest + "9"
)

// want reports an error if a value or an error number is not the expected one.
func want(t *testing.T, what string, got, wanted any, e, wantedError api.Errno) {
	t.Helper()
	if g, w := fmt.Sprintf("%+v", got), fmt.Sprintf("%+v", wanted); g != w || e != wantedError {
		t.Errorf("%.500s:\ngot  %.1000s, %d\nwant %.1000s, %d", what, g, e, w, wantedError)
	}
}

// modulo returns the class of r plus the multiples of m.
func modulo(r, m api.Int) api.Congruence { return api.Congruence{Mod: m, Rem: r} }

// only returns the class of a single integer.
func only(r api.Int) api.Congruence { return modulo(r, "0") }

// faulty are classes with errors.
var faulty = []struct {
	c api.Congruence
	e api.Errno
}{
	{api.Congruence{Empty: true, Mod: "0"}, api.ErrForm}, {api.Congruence{Empty: true, Rem: "0"}, api.ErrForm}, {api.Congruence{Empty: true, Mod: "1", Rem: "0"}, api.ErrForm}, {api.Congruence{Empty: true, Mod: "-2", Rem: huge}, api.ErrForm}, {api.Congruence{Empty: true, Mod: tooLong}, api.ErrForm},
	{zero, api.ErrForm}, {modulo("0", ""), api.ErrForm}, {modulo("", "0"), api.ErrForm}, {modulo("", "1"), api.ErrForm}, {modulo("x", "0"), api.ErrForm}, {modulo("0", "x"), api.ErrForm}, {modulo("-0", "0"), api.ErrForm}, {modulo("0", "-0"), api.ErrForm}, {modulo("01", "5"), api.ErrForm}, {modulo("1", "05"), api.ErrForm}, {modulo("+1", "5"), api.ErrForm}, {modulo(" ", "5"), api.ErrForm}, {modulo(huge, "x"), api.ErrForm}, {modulo("x", "-1"), api.ErrForm}, {modulo(tooLong+"x", "0"), api.ErrForm},
	{modulo("0", huge), api.ErrLarge}, {modulo("0", power), api.ErrLarge}, {modulo(huge, "0"), api.ErrLarge}, {modulo("-"+power, "0"), api.ErrLarge}, {modulo("x", huge), api.ErrLarge}, {modulo(huge, "5"), api.ErrLarge}, {modulo("0", "-"+huge), api.ErrLarge}, {modulo(huge, "-5"), api.ErrLarge}, {modulo("0", tooLong), api.ErrLarge}, {modulo(longest, "0"), api.ErrLarge}, {modulo(tooLong, "0"), api.ErrLarge},
	{modulo("0", "-1"), api.ErrRange}, {modulo("1", "-5"), api.ErrRange}, {modulo("-1", "-5"), api.ErrRange}, {modulo("1", "1"), api.ErrRange}, {modulo("-1", "1"), api.ErrRange}, {modulo("5", "5"), api.ErrRange}, {modulo("6", "5"), api.ErrRange}, {modulo("-1", "5"), api.ErrRange}, {modulo("-5", "5"), api.ErrRange}, {modulo(nines, nines), api.ErrRange}, {modulo("10", "9"), api.ErrRange}, {modulo("0", "-"+nines), api.ErrRange},
}

// malformed are texts that are no integers, with their errors.
var malformed = []struct {
	a api.Int
	e api.Errno
}{{"", api.ErrForm}, {"-", api.ErrForm}, {"-0", api.ErrForm}, {"00", api.ErrForm}, {"01", api.ErrForm}, {"+1", api.ErrForm}, {" 1", api.ErrForm}, {"x", api.ErrForm}, {"1.0", api.ErrForm}, {tooLong + "x", api.ErrForm}, {tooLong, api.ErrLarge}, {"-" + tooLong, api.ErrLarge}}

func text(n int) api.Int { return api.Int(fmt.Sprint(n)) }

// smallClasses returns the empty class, those with a Mod up to n, and the integers of a magnitude up to n.
func smallClasses(n int) []api.Congruence {
	list := []api.Congruence{empty}
	for m := 1; m <= n; m++ {
		for r := range m {
			list = append(list, modulo(text(r), text(m)))
		}
	}
	for r := -n; r <= n; r++ {
		list = append(list, only(text(r)))
	}
	return list
}

// intOf returns the value of a short integer.
func intOf(a api.Int) int {
	n, _ := strconv.Atoi(string(a))
	return n
}

// isSmall reports whether an int is in a class of small numbers.
func isSmall(c api.Congruence, a int) bool {
	m, r := intOf(c.Mod), intOf(c.Rem)
	return !c.Empty && (m == 0 && a == r || m != 0 && (a-r)%m == 0)
}

// members returns the ints of a class from -n to n.
func members(c api.Congruence, n int) []int {
	var list []int
	for a := -n; a <= n; a++ {
		if isSmall(c, a) {
			list = append(list, a)
		}
	}
	return list
}

// least returns the least class of ints.
func least(list []int) api.Congruence {
	if len(list) == 0 {
		return empty
	}
	m := 0
	for _, a := range list {
		b := a - list[0]
		for b != 0 {
			m, b = b, m%b
		}
	}
	m = max(m, -m)
	if m == 0 {
		return only(text(list[0]))
	}
	return modulo(text((list[0]%m+m)%m), text(m))
}

// all returns the results for all pairs of ints.
func all(list, others []int, compute func(a, b int) int) []int {
	var out []int
	for _, a := range list {
		for _, b := range others {
			out = append(out, compute(a, b))
		}
	}
	return out
}

func parse(a api.Int) *big.Int {
	n, _ := new(big.Int).SetString(string(a), 10)
	return n
}

// divide returns quotient and remainder, rounded down.
func divide(x, y *big.Int) (*big.Int, *big.Int) {
	q, r := new(big.Int).DivMod(x, y, new(big.Int)) // r is not negative
	if r.Sign() > 0 && y.Sign() < 0 {
		return q.Sub(q, big.NewInt(1)), r.Add(r, y)
	}
	return q, r
}

func plus(a, b *big.Int) *big.Int  { return new(big.Int).Add(a, b) }
func less(a, b *big.Int) *big.Int  { return new(big.Int).Sub(a, b) }
func times(a, b *big.Int) *big.Int { return new(big.Int).Mul(a, b) }

// clippedClass returns the class of r plus the multiples of some numbers, clipped.
func clippedClass(r *big.Int, list ...*big.Int) api.Congruence {
	m := new(big.Int)
	for _, n := range list {
		m.GCD(nil, nil, m, new(big.Int).Abs(n))
	}
	if m.Sign() != 0 {
		r = new(big.Int).Mod(r, m)
	}
	if len(m.String()) > api.MaxDigits || len(strings.TrimPrefix(r.String(), "-")) > api.MaxDigits {
		return top
	}
	return modulo(api.Int(r.String()), api.Int(m.String()))
}

// binary are the functions of two classes, with their results for classes that are not empty: the class of r plus the multiples of m, and the class of s plus the multiples of n.
var binary = []struct {
	name   string
	call   func(c, d api.Congruence) (api.Congruence, api.Errno)
	result func(m, r, n, s *big.Int) api.Congruence
}{
	{"Join", Join, func(m, r, n, s *big.Int) api.Congruence { return clippedClass(r, m, n, less(r, s)) }},
	{"Meet", Meet, referenceMeet},
	{"Add", Add, func(m, r, n, s *big.Int) api.Congruence { return clippedClass(plus(r, s), m, n) }},
	{"Sub", Sub, func(m, r, n, s *big.Int) api.Congruence { return clippedClass(less(r, s), m, n) }},
	{"Mul", Mul, func(m, r, n, s *big.Int) api.Congruence {
		return clippedClass(times(r, s), times(m, n), times(m, s), times(n, r))
	}},
	{"Quo", Quo, func(m, r, n, s *big.Int) api.Congruence {
		switch {
		case n.Sign() != 0 && m.Sign() == 0 && r.Sign() == 0:
			return only("0")
		case n.Sign() != 0:
			return top
		case s.Sign() == 0:
			return empty
		}
		quotient, rest := divide(m, s)
		if rest.Sign() != 0 {
			return top
		}
		first, _ := divide(r, s)
		return clippedClass(first, quotient)
	}},
	{"Rem", Rem, func(m, r, n, s *big.Int) api.Congruence {
		if n.Sign() == 0 && s.Sign() == 0 {
			return empty
		}
		if n.Sign() == 0 && new(big.Int).Rem(m, s).Sign() == 0 {
			_, rest := divide(r, s)
			return clippedClass(rest)
		}
		return clippedClass(r, m, n, s)
	}},
}

// referenceMeet tries r, r + m, .. for a few classes, and solves the congruence otherwise.
func referenceMeet(m, r, n, s *big.Int) api.Congruence {
	if m.Sign() == 0 || n.Sign() == 0 {
		if m.Sign() != 0 {
			m, r, n, s = n, s, m, r
		}
		if n.Sign() == 0 && r.Cmp(s) != 0 || n.Sign() != 0 && new(big.Int).Mod(less(r, s), n).Sign() != 0 {
			return empty
		}
		return clippedClass(r)
	}
	g := new(big.Int).GCD(nil, nil, m, n)
	steps, rest := divide(less(s, r), g)
	if rest.Sign() != 0 {
		return empty
	}
	part := new(big.Int).Quo(n, g)
	inverse := big.NewInt(0)
	if part.Cmp(big.NewInt(1)) > 0 {
		inverse.ModInverse(new(big.Int).Quo(m, g), part)
	}
	return clippedClass(plus(r, times(m, times(steps, inverse))), times(m, part))
}

// reference returns the result of the i-th function.
func reference(i int, c, d api.Congruence) api.Congruence {
	switch {
	case c.Empty && binary[i].name == "Join":
		return d
	case d.Empty && binary[i].name == "Join":
		return c
	case c.Empty || d.Empty:
		return empty
	}
	return binary[i].result(parse(c.Mod), parse(c.Rem), parse(d.Mod), parse(d.Rem))
}

// edges are integers of different lengths, up to the longest ones of classes.
var edges = []api.Int{"0", "1", "-1", "2", "-2", "3", "6", "-7", "10", "999999999", "1000000000", "-1000000001", "18446744073709551616", power[:51], "-" + power[:51], power[:50] + "1", power[:100], "-" + power[:100], nines[:99], nines, "-" + nines, nines[:99] + "8", "-" + nines[:99] + "8"}

func randomInt(r *rand.Rand) api.Int {
	switch r.Intn(4) {
	case 0, 1:
		return text(r.Intn(61) - 30)
	case 2:
		a := new(big.Int).Rand(r, parse(power))
		a.Rsh(a, uint(r.Intn(320)))
		if r.Intn(2) == 0 {
			a.Neg(a)
		}
		return api.Int(a.String())
	}
	return edges[r.Intn(len(edges))]
}

func randomClass(r *rand.Rand) api.Congruence {
	switch r.Intn(12) {
	case 0:
		return empty
	case 1, 2:
		return only(randomInt(r))
	case 3: // has a Mod with many divisors
		m := big.NewInt(1)
		for range 1 + r.Intn(40) {
			m.Mul(m, big.NewInt(int64(2+r.Intn(9))))
		}
		return clippedClass(parse(randomInt(r)), m)
	}
	return clippedClass(parse(randomInt(r)), parse(randomInt(r)))
}

// randomMember returns an integer of a class that is not empty.
func randomMember(r *rand.Rand, c api.Congruence) *big.Int {
	return plus(parse(c.Rem), times(parse(c.Mod), big.NewInt(int64(r.Intn(2001)-1000))))
}
