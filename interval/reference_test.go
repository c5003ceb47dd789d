package interval

import (
	"fmt"
	"math/big"
	"math/rand"
	"strconv"
	"strings"
	"testing"

	"surveyor/api"
)

// This file has the references that results are compared with, and intervals as arguments.

var (
	empty, top = api.Interval{Empty: true}, api.Interval{}
	nines      = api.Int(strings.Repeat("9", api.MaxDigits))
	huge       = nines + "9" // has too many digits for a bound
	power      = api.Int("1" + strings.Repeat("0", api.MaxDigits))
	longest    = api.Int(strings.Repeat("9", api.MaxLong))
	tooLong    = longest + "9"
)

// want reports an error if a value or an error number is not the expected one.
func want(t *testing.T, what string, got, wanted any, e, wantedError api.Errno) {
	t.Helper()
	if g, w := fmt.Sprintf("%+v", got), fmt.Sprintf("%+v", wanted); g != w || e != wantedError {
		t.Errorf("%.500s:\ngot  %.1000s, %d\nwant %.1000s, %d", what, g, e, w, wantedError)
	}
}

func rangeOf(lo, hi api.Int) api.Interval { return api.Interval{Lo: lo, Hi: hi} }

// faulty are intervals that are not well-formed.
var faulty = []struct {
	a api.Interval
	e api.Errno
}{
	{api.Interval{Empty: true, Lo: "1"}, api.ErrForm}, {api.Interval{Empty: true, Hi: "1"}, api.ErrForm}, {api.Interval{Empty: true, Lo: "2", Hi: "1"}, api.ErrForm}, {api.Interval{Empty: true, Lo: huge}, api.ErrForm}, {api.Interval{Empty: true, Hi: tooLong}, api.ErrForm},
	{rangeOf("x", ""), api.ErrForm}, {rangeOf("", "x"), api.ErrForm}, {rangeOf("-", "5"), api.ErrForm}, {rangeOf("-0", "5"), api.ErrForm}, {rangeOf("0", "05"), api.ErrForm}, {rangeOf("+1", "5"), api.ErrForm}, {rangeOf(" ", "5"), api.ErrForm}, {rangeOf("5", "1.0"), api.ErrForm}, {rangeOf(tooLong+"x", "5"), api.ErrForm}, {rangeOf("x", huge), api.ErrForm}, {rangeOf("5", "x"), api.ErrForm}, {rangeOf(nines, "x"), api.ErrForm},
	{rangeOf(huge, ""), api.ErrLarge}, {rangeOf("", huge), api.ErrLarge}, {rangeOf("-"+huge, huge), api.ErrLarge}, {rangeOf("", "-"+power), api.ErrLarge}, {rangeOf(huge, "x"), api.ErrLarge}, {rangeOf("", longest), api.ErrLarge}, {rangeOf(tooLong, "5"), api.ErrLarge}, {rangeOf(huge, "1"), api.ErrLarge},
	{rangeOf("2", "1"), api.ErrOrder}, {rangeOf("0", "-1"), api.ErrOrder}, {rangeOf("10", "9"), api.ErrOrder}, {rangeOf("-9", "-10"), api.ErrOrder}, {rangeOf(nines, "-"+nines), api.ErrOrder},
}

// malformed are texts that are no integers, with their errors.
var malformed = []struct {
	a api.Int
	e api.Errno
}{{"-", api.ErrForm}, {"-0", api.ErrForm}, {"00", api.ErrForm}, {"01", api.ErrForm}, {"+1", api.ErrForm}, {" 1", api.ErrForm}, {"x", api.ErrForm}, {"1.0", api.ErrForm}, {tooLong + "x", api.ErrForm}, {tooLong, api.ErrLarge}, {"-" + tooLong, api.ErrLarge}}

// smallIntervals returns the empty interval and all others with bounds up to n, or without them.
func smallIntervals(n int) []api.Interval {
	var bounds []api.Int
	for i := -n; i <= n; i++ {
		bounds = append(bounds, api.Int(fmt.Sprint(i)))
	}
	list := []api.Interval{empty, top}
	for i, lo := range bounds {
		list = append(list, rangeOf(lo, ""), rangeOf("", lo))
		for _, hi := range bounds[i:] {
			list = append(list, rangeOf(lo, hi))
		}
	}
	return list
}

// isSmall reports whether an int is in an interval with bounds that are ints.
func isSmall(a api.Interval, x int) bool {
	lo, e := strconv.Atoi(string(a.Lo))
	hi, f := strconv.Atoi(string(a.Hi))
	return !a.Empty && (e != nil || lo <= x) && (f != nil || x <= hi)
}

// members returns the ints of an interval from -n to n.
func members(a api.Interval, n int) []int {
	var list []int
	for x := -n; x <= n; x++ {
		if isSmall(a, x) {
			list = append(list, x)
		}
	}
	return list
}

// least returns the least interval of a set. The function gives the results for integers up to some magnitude: bounds that depend on it are none.
func least(results func(n int) []int) api.Interval {
	near, far := results(20), results(40)
	if len(near) == 0 {
		return empty
	}
	var out api.Interval
	if lo := minimum(near); lo == minimum(far) {
		out.Lo = api.Int(fmt.Sprint(lo))
	}
	if hi := maximum(near); hi == maximum(far) {
		out.Hi = api.Int(fmt.Sprint(hi))
	}
	return out
}

func minimum(list []int) int {
	out := list[0]
	for _, x := range list {
		out = min(out, x)
	}
	return out
}

func maximum(list []int) int {
	out := list[0]
	for _, x := range list {
		out = max(out, x)
	}
	return out
}

// floor returns the quotient of ints, rounded down.
func floor(x, y int) int {
	quotient := x / y
	if quotient*y != x && (x < 0) != (y < 0) {
		quotient--
	}
	return quotient
}

// set is an interval of big integers. Those of the magnitude of vast stand for missing bounds; as they have too many digits, so do all results that depend on them.
type set struct {
	isEmpty bool
	lo, hi  *big.Int
}

var (
	vast  = new(big.Int).Exp(big.NewInt(10), big.NewInt(500), nil)
	one   = big.NewInt(1)
	zero  = new(big.Int)
	minus = big.NewInt(-1)
)

func parse(a api.Int) *big.Int {
	x, _ := new(big.Int).SetString(string(a), 10)
	return x
}

func setOf(a api.Interval) set {
	s := set{a.Empty, new(big.Int).Neg(vast), vast}
	if a.Lo != "" {
		s.lo = parse(a.Lo)
	}
	if a.Hi != "" {
		s.hi = parse(a.Hi)
	}
	return s
}

func clip(x *big.Int) api.Int {
	text := x.String()
	if len(strings.TrimPrefix(text, "-")) > api.MaxDigits {
		return ""
	}
	return api.Int(text)
}

func (s set) interval() api.Interval {
	if s.isEmpty || s.lo.Cmp(s.hi) > 0 {
		return empty
	}
	return rangeOf(clip(s.lo), clip(s.hi))
}

func lesser(x, y *big.Int) *big.Int {
	if x.Cmp(y) < 0 {
		return x
	}
	return y
}

func greater(x, y *big.Int) *big.Int {
	if x.Cmp(y) > 0 {
		return x
	}
	return y
}

func (s set) has(x *big.Int) bool { return !s.isEmpty && s.lo.Cmp(x) <= 0 && x.Cmp(s.hi) <= 0 }

func negative(s set) set {
	if s.isEmpty {
		return s
	}
	return set{false, new(big.Int).Neg(s.hi), new(big.Int).Neg(s.lo)}
}

func referenceJoin(s, t set) set {
	switch {
	case s.isEmpty:
		return t
	case t.isEmpty:
		return s
	}
	return set{false, lesser(s.lo, t.lo), greater(s.hi, t.hi)}
}

func referenceMeet(s, t set) set {
	if s.isEmpty || t.isEmpty {
		return set{isEmpty: true}
	}
	out := set{false, greater(s.lo, t.lo), lesser(s.hi, t.hi)}
	out.isEmpty = out.lo.Cmp(out.hi) > 0
	return out
}

// divide returns quotient and remainder, rounded down.
func divide(x, y *big.Int) (*big.Int, *big.Int) {
	q, r := new(big.Int).DivMod(x, y, new(big.Int)) // r is not negative
	if r.Sign() > 0 && y.Sign() < 0 {
		return q.Sub(q, one), r.Add(r, y)
	}
	return q, r
}

// results returns the least set of the results for bounds, and divisors next to 0.
func results(s, t set, compute func(x, y *big.Int) *big.Int) set {
	out := set{isEmpty: true}
	if s.isEmpty {
		return out
	}
	for _, y := range []*big.Int{t.lo, t.hi, minus, one} {
		if t.isEmpty || !t.has(y) {
			continue
		}
		for _, x := range []*big.Int{s.lo, s.hi} {
			if z := compute(x, y); z != nil {
				out = referenceJoin(out, set{false, z, z})
			}
		}
	}
	return out
}

// binary are the operations, with the results for two integers where there is one.
var binary = []struct {
	name    string
	call    func(a, b api.Interval) (api.Interval, api.Errno)
	small   func(x, y int) (int, bool)
	compute func(x, y *big.Int) *big.Int
}{
	{"Add", Add, func(x, y int) (int, bool) { return x + y, true }, func(x, y *big.Int) *big.Int { return new(big.Int).Add(x, y) }},
	{"Sub", Sub, func(x, y int) (int, bool) { return x - y, true }, func(x, y *big.Int) *big.Int { return new(big.Int).Sub(x, y) }},
	{"Mul", Mul, func(x, y int) (int, bool) { return x * y, true }, func(x, y *big.Int) *big.Int { return new(big.Int).Mul(x, y) }},
	{"Quo", Quo, func(x, y int) (int, bool) {
		if y == 0 {
			return 0, false
		}
		return floor(x, y), true
	}, func(x, y *big.Int) *big.Int {
		if y.Sign() == 0 {
			return nil
		}
		q, _ := divide(x, y)
		return q
	}},
}

// referenceRem follows the definition of the remainders.
func referenceRem(s, t set) set {
	positive := set{false, one, vast}
	return referenceJoin(remaindersBy(s, referenceMeet(t, positive)), negative(remaindersBy(negative(s), referenceMeet(negative(t), positive))))
}

func remaindersBy(s, t set) set {
	if s.isEmpty || t.isEmpty {
		return set{isEmpty: true}
	}
	c, d := t.lo, t.hi
	last := new(big.Int).Sub(c, one)
	if c.Cmp(d) == 0 {
		next := new(big.Int).Add(s.lo, last)
		_, r := divide(s.lo, c)
		_, q := divide(s.hi, c)
		if s.hi.Cmp(next) > 0 || r.Cmp(q) > 0 || s.lo.CmpAbs(vast) == 0 || s.hi.CmpAbs(vast) == 0 {
			return set{false, zero, last}
		}
		return set{false, r, q}
	}
	if s.lo.Sign() >= 0 && s.hi.Cmp(last) <= 0 {
		return s
	}
	h := new(big.Int).Sub(d, one)
	if d.Cmp(vast) == 0 {
		h = vast
	}
	if s.lo.Sign() >= 0 {
		h = lesser(h, s.hi)
	}
	return set{false, zero, h}
}

// compare is the truth of a comparison of two integers in an order.
func compare(op, order int) bool {
	return map[int]bool{api.CondEq: order == 0, api.CondNe: order != 0, api.CondLt: order < 0, api.CondLe: order <= 0}[op]
}

// referenceRefine follows the definition of refining.
func referenceRefine(op int, s, t set) (set, set) {
	none := set{isEmpty: true}
	if s.isEmpty || t.isEmpty {
		return none, none
	}
	left, right := s, t
	switch op {
	case api.CondEq:
		left, right = referenceMeet(s, t), referenceMeet(s, t)
	case api.CondNe:
		left, right = referenceWithout(s, t), referenceWithout(t, s)
	case api.CondLt:
		left.hi, right.lo = lesser(s.hi, new(big.Int).Sub(t.hi, one)), greater(t.lo, new(big.Int).Add(s.lo, one))
	case api.CondLe:
		left.hi, right.lo = lesser(s.hi, t.hi), greater(t.lo, s.lo)
	}
	if left.isEmpty || left.lo.Cmp(left.hi) > 0 || right.isEmpty || right.lo.Cmp(right.hi) > 0 {
		return none, none
	}
	return left, right
}

func referenceWithout(s, t set) set {
	if t.lo.Cmp(t.hi) != 0 {
		return s
	}
	if s.lo.Cmp(t.lo) == 0 {
		return set{false, new(big.Int).Add(s.lo, one), s.hi}
	}
	if s.hi.Cmp(t.lo) == 0 {
		return set{false, s.lo, new(big.Int).Sub(s.hi, one)}
	}
	return s
}

// referenceWiden follows the definition of widening.
func referenceWiden(a, b api.Interval, thresholds []api.Int) api.Interval {
	if a.Empty {
		return b
	}
	if b.Empty {
		return a
	}
	both := referenceJoin(setOf(a), setOf(b)).interval()
	out := both
	if both.Lo != a.Lo {
		out.Lo = ""
		for _, c := range thresholds {
			if both.Lo != "" && parse(c).Cmp(parse(both.Lo)) <= 0 {
				out.Lo = c
			}
		}
	}
	if both.Hi != a.Hi {
		out.Hi = ""
		for i := len(thresholds) - 1; i >= 0; i-- {
			if c := thresholds[i]; both.Hi != "" && parse(c).Cmp(parse(both.Hi)) >= 0 {
				out.Hi = c
			}
		}
	}
	return out
}

// referenceNarrow follows the definition of narrowing.
func referenceNarrow(a, b api.Interval) api.Interval {
	if a.Empty || b.Empty {
		return empty
	}
	out := a
	if a.Lo == "" {
		out.Lo = b.Lo
	}
	if a.Hi == "" {
		out.Hi = b.Hi
	}
	if out.Lo != "" && out.Hi != "" && parse(out.Lo).Cmp(parse(out.Hi)) > 0 {
		return empty
	}
	return out
}

// edges are integers of different lengths, up to the longest bounds.
var edges = []api.Int{"0", "1", "-1", "2", "-2", "3", "-7", "10", "999999999", "1000000000", "-1000000001", "18446744073709551616", power[:51], "-" + power[:51], power[:51] + "1", power[:100], "-" + power[:100], nines[:99], "-" + nines[:99], nines, "-" + nines, nines[:99] + "8", "-" + nines[:99] + "8"}

func randomBound(r *rand.Rand) api.Int {
	switch r.Intn(5) {
	case 0:
		return ""
	case 1, 2:
		return api.Int(fmt.Sprint(r.Intn(21) - 10))
	case 3:
		x := new(big.Int).Rand(r, parse(power))
		x.Rsh(x, uint(r.Intn(300)))
		if r.Intn(2) == 0 {
			x.Neg(x)
		}
		return api.Int(x.String())
	}
	return edges[r.Intn(len(edges))]
}

func randomInterval(r *rand.Rand) api.Interval {
	switch r.Intn(12) {
	case 0:
		return empty
	case 1:
		for {
			if lo := randomBound(r); lo != "" {
				return rangeOf(lo, lo)
			}
		}
	}
	lo, hi := randomBound(r), randomBound(r)
	if lo != "" && hi != "" && parse(lo).Cmp(parse(hi)) > 0 {
		lo, hi = hi, lo
	}
	return rangeOf(lo, hi)
}

// randomMember returns an integer of an interval that is not empty.
func randomMember(r *rand.Rand, a api.Interval) *big.Int {
	s := setOf(a)
	if a.Lo == "" {
		s.lo = new(big.Int).Sub(lesser(s.hi, parse(nines)), big.NewInt(r.Int63()))
	}
	if a.Hi == "" {
		s.hi = new(big.Int).Add(greater(s.lo, parse("-"+nines)), big.NewInt(r.Int63()))
	}
	switch width := new(big.Int).Sub(s.hi, s.lo); r.Intn(3) {
	case 0:
		return s.lo
	case 1:
		return s.hi
	default:
		return width.Add(width.Rand(r, width.Add(width, one)), s.lo)
	}
}
