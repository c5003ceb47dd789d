package interval

import (
	"fmt"
	"math/big"
	"math/rand"
	"slices"
	"testing"

	"surveyor/api"
)

func TestP21_1Check(t *testing.T) {
	for i, a := range []api.Interval{empty, top, rangeOf("0", ""), rangeOf("", "0"), rangeOf("0", "0"), rangeOf("-1", "1"), rangeOf("9", "10"), rangeOf("-10", "-9"), rangeOf("-"+nines, nines), rangeOf(nines, nines), rangeOf("", "-"+nines)} {
		want(t, fmt.Sprint("Check ", i), 0, 0, Check(a), api.OK)
	}
	for i, c := range faulty {
		want(t, fmt.Sprint("Check ", i), 0, 0, Check(c.a), c.e)
	}
	want(t, "Top", Top(), api.Interval{}, 0, 0)
}

func TestP21_1Make(t *testing.T) {
	for _, c := range []struct {
		lo, hi api.Int
		a      api.Interval
	}{
		{"", "", top}, {"1", "", rangeOf("1", "")}, {"", "1", rangeOf("", "1")}, {"1", "1", rangeOf("1", "1")}, {"-5", "7", rangeOf("-5", "7")}, {"2", "1", empty}, {"10", "9", empty}, {"0", "-1", empty},
		{"-" + nines, nines, rangeOf("-"+nines, nines)}, {nines, "-" + nines, empty},
		// Bounds with too many digits are left out, behind the comparison.
		{power, "", top}, {"", power, top}, {"-" + power, power, top}, {power, huge, top}, {huge, power, empty}, {power, power, top}, {"5", power, rangeOf("5", "")}, {"-" + power, "5", rangeOf("", "5")}, {power, "5", empty}, {"5", "-" + power, empty}, {longest, longest, top}, {longest, power, empty}, {"-" + longest, "-" + nines, rangeOf("", "-"+nines)},
	} {
		a, e := Make(c.lo, c.hi)
		want(t, fmt.Sprint("Make ", c.lo, " ", c.hi), a, c.a, e, api.OK)
	}
	for _, c := range malformed {
		for _, other := range []api.Int{"", "0", huge, "x", tooLong} {
			a, e := Make(c.a, other)
			want(t, fmt.Sprint("Make ", c.a, " ", other), a, top, e, c.e)
		}
		for _, other := range []api.Int{"", "0", huge, longest} {
			a, e := Make(other, c.a)
			want(t, fmt.Sprint("Make ", other, " ", c.a), a, top, e, c.e)
		}
	}
}

func TestP21_1Holds(t *testing.T) {
	for _, a := range smallIntervals(3) {
		for v := -5; v <= 5; v++ {
			holds, e := Holds(a, api.Int(fmt.Sprint(v)))
			want(t, fmt.Sprint("Holds ", a, " ", v), holds, isSmall(a, v), e, api.OK)
		}
		for v, above := range map[api.Int]bool{longest: true, "-" + longest: false, huge: true, "-" + huge: false} {
			holds, e := Holds(a, v)
			want(t, fmt.Sprint("Holds ", a, " ", v), holds, !a.Empty && (above && a.Hi == "" || !above && a.Lo == ""), e, api.OK)
		}
		for _, c := range append(malformed, malformed[0]) {
			holds, e := Holds(a, c.a)
			want(t, fmt.Sprint("Holds ", a, " ", c.a), holds, false, e, c.e)
		}
		holds, e := Holds(a, "")
		want(t, fmt.Sprint("Holds ", a), holds, false, e, api.ErrForm)
	}
	for i, c := range faulty {
		for _, v := range []api.Int{"0", "x", tooLong} {
			holds, e := Holds(c.a, v)
			want(t, fmt.Sprint("Holds ", i, " ", v), holds, false, e, c.e)
		}
	}
	for _, v := range edges {
		for _, lo := range edges {
			x, y := parse(v), parse(lo)
			holds, e := Holds(rangeOf(lo, ""), v)
			want(t, fmt.Sprint("Holds from ", lo, " ", v), holds, x.Cmp(y) >= 0, e, api.OK)
			holds, e = Holds(rangeOf("", lo), v)
			want(t, fmt.Sprint("Holds to ", lo, " ", v), holds, x.Cmp(y) <= 0, e, api.OK)
		}
	}
}

func TestP21_1Order(t *testing.T) {
	list := smallIntervals(3)
	for _, a := range list {
		for _, b := range list {
			what := fmt.Sprint(" of ", a, " and ", b)
			isPart := true
			for _, x := range members(a, 10) {
				isPart = isPart && isSmall(b, x)
			}
			leq, e := Leq(a, b)
			want(t, "Leq"+what, leq, isPart, e, api.OK)
			join, e := Join(a, b)
			want(t, "Join"+what, join, least(func(n int) []int { return append(members(a, n), members(b, n)...) }), e, api.OK)
			meet, e := Meet(a, b)
			want(t, "Meet"+what, meet, least(func(n int) []int {
				return slices.DeleteFunc(members(a, n), func(x int) bool { return !isSmall(b, x) })
			}), e, api.OK)
		}
	}
}

// TestP21Operations compares operations with their results for small integers (P21.1, P21.2).
func TestP21Operations(t *testing.T) {
	list := smallIntervals(4)
	for _, a := range list {
		negated, e := Neg(a)
		want(t, fmt.Sprint("Neg of ", a), negated, least(func(n int) []int {
			var list []int
			for _, x := range members(a, n) {
				list = append(list, -x)
			}
			return list
		}), e, api.OK)
		for _, b := range list {
			for _, o := range binary {
				got, e := o.call(a, b)
				want(t, fmt.Sprint(o.name, " of ", a, " and ", b), got, least(func(n int) []int { return smallResults(a, b, n, o.small) }), e, api.OK)
			}
		}
	}
}

// smallResults returns the results for the ints of two intervals from -n to n.
func smallResults(a, b api.Interval, n int, small func(x, y int) (int, bool)) []int {
	var list []int
	divisors := members(b, n)
	for _, x := range members(a, n) {
		for _, y := range divisors {
			if z, ok := small(x, y); ok {
				list = append(list, z)
			}
		}
	}
	return list
}

// TestP21Long compares operations with integers up to the limits (P21.1, P21.2).
func TestP21Long(t *testing.T) {
	r := rand.New(rand.NewSource(1))
	for range 20000 {
		a, b := randomInterval(r), randomInterval(r)
		what := fmt.Sprint(" of ", a, " and ", b)
		s, u := setOf(a), setOf(b)
		for _, o := range binary {
			got, e := o.call(a, b)
			want(t, o.name+what, got, results(s, u, o.compute).interval(), e, api.OK)
		}
		got, e := Rem(a, b)
		want(t, "Rem"+what, got, referenceRem(s, u).interval(), e, api.OK)
		got, e = Neg(a)
		want(t, "Neg"+what, got, negative(s).interval(), e, api.OK)
		got, e = Join(a, b)
		want(t, "Join"+what, got, referenceJoin(s, u).interval(), e, api.OK)
		got, e = Meet(a, b)
		want(t, "Meet"+what, got, referenceMeet(s, u).interval(), e, api.OK)
		got, e = Narrow(a, b)
		want(t, "Narrow"+what, got, referenceNarrow(a, b), e, api.OK)
		leq, e := Leq(a, b)
		want(t, "Leq"+what, leq, a.Empty || !b.Empty && u.lo.Cmp(s.lo) <= 0 && s.hi.Cmp(u.hi) <= 0, e, api.OK)
		for op := api.CondEq; op <= api.CondLe; op++ {
			left, right, e := Refine(op, a, b)
			p, q := referenceRefine(op, s, u)
			want(t, fmt.Sprint("Refine ", op, what), []api.Interval{left, right}, []api.Interval{p.interval(), q.interval()}, e, api.OK)
		}
	}
}

// TestP21_1Clipping has results with the most digits, and with more.
func TestP21_1Clipping(t *testing.T) {
	root, eight := power[:51], nines[:99]+"8"
	for i, c := range []struct {
		call    func(a, b api.Interval) (api.Interval, api.Errno)
		a, b, w api.Interval
	}{
		{Add, rangeOf(nines, nines), rangeOf("1", "1"), top}, {Add, rangeOf(eight, eight), rangeOf("1", "1"), rangeOf(nines, nines)}, {Add, rangeOf("0", nines), rangeOf("0", "1"), rangeOf("0", "")}, {Add, rangeOf("-"+nines, nines), rangeOf("-1", "0"), rangeOf("", nines)},
		{Sub, rangeOf("0", nines), rangeOf("-1", "0"), rangeOf("0", "")}, {Sub, rangeOf("-"+nines, "0"), rangeOf("0", "1"), rangeOf("", "0")}, {Sub, rangeOf("-"+eight, "0"), rangeOf("0", "1"), rangeOf("-"+nines, "0")},
		{Mul, rangeOf("1", root), rangeOf("1", root), rangeOf("1", "")}, {Mul, rangeOf("-"+root, "1"), rangeOf("1", root), rangeOf("", root)}, {Mul, rangeOf("1", root), rangeOf("1", root[:50]), rangeOf("1", power[:100])}, {Mul, rangeOf(nines, nines), rangeOf(nines, nines), top},
		{Quo, rangeOf(nines, nines), rangeOf("-1", "-1"), rangeOf("-"+nines, "-"+nines)}, {Quo, rangeOf("-1", "0"), rangeOf(nines, ""), rangeOf("-1", "0")},
		{Rem, rangeOf("-1", "-1"), rangeOf(nines, nines), rangeOf(eight, eight)}, {Rem, rangeOf("-1", ""), rangeOf("1", nines), rangeOf("0", eight)},
	} {
		got, e := c.call(c.a, c.b)
		want(t, fmt.Sprint("clipping ", i), got, c.w, e, api.OK)
	}
}

// pair is a function of two intervals, with its zero result.
type pair struct {
	name string
	call func(a, b api.Interval) (any, api.Errno)
	zero any
}

// pairs returns the functions of two intervals.
func pairs() []pair {
	list := []pair{{"Leq", func(a, b api.Interval) (any, api.Errno) { return boxed(Leq(a, b)) }, false}}
	for name, call := range map[string]func(a, b api.Interval) (api.Interval, api.Errno){"Join": Join, "Meet": Meet, "Add": Add, "Sub": Sub, "Mul": Mul, "Quo": Quo, "Rem": Rem, "Narrow": Narrow} {
		list = append(list, pair{name, func(a, b api.Interval) (any, api.Errno) { return boxed(call(a, b)) }, top})
	}
	for _, thresholds := range [][]api.Int{nil, {"1", "2"}, {"2", "1"}, {"x"}, make([]api.Int, api.MaxList+1)} {
		list = append(list, pair{"Widen", func(a, b api.Interval) (any, api.Errno) { return boxed(Widen(a, b, thresholds)) }, top})
	}
	for op := api.CondEq; op <= api.CondLe; op++ {
		list = append(list, pair{fmt.Sprint("Refine ", op), func(a, b api.Interval) (any, api.Errno) {
			c, d, e := Refine(op, a, b)
			return []api.Interval{c, d}, e
		}, []api.Interval{top, top}})
	}
	return list
}

func boxed[T any](result T, e api.Errno) (any, api.Errno) {
	return result, e
}

// TestP21Errors has intervals that are not well-formed, in all places (P21.1, P21.2).
func TestP21Errors(t *testing.T) {
	for i, c := range faulty {
		negated, e := Neg(c.a)
		want(t, fmt.Sprint("Neg ", i), negated, top, e, c.e)
		text, e := Format(c.a)
		want(t, fmt.Sprint("Format ", i), text, "", e, c.e)
		for _, f := range pairs() {
			for _, a := range []api.Interval{empty, top, rangeOf("1", "5"), rangeOf("0", "0")} {
				got, e := f.call(c.a, a)
				want(t, fmt.Sprint(f.name, " ", i, " left"), got, f.zero, e, c.e)
				got, e = f.call(a, c.a)
				want(t, fmt.Sprint(f.name, " ", i, " right"), got, f.zero, e, c.e)
			}
			for _, other := range faulty {
				got, e := f.call(c.a, other.a)
				want(t, fmt.Sprint(f.name, " ", i, " with another"), got, f.zero, e, c.e)
			}
		}
		for _, op := range []int{-1, api.CondTrue, api.CondFalse, api.CondNot, api.CondAnd, api.CondOr, 9, 1 << 40, -1 << 63} {
			for _, a := range []api.Interval{c.a, empty, top} {
				left, right, e := Refine(op, a, c.a)
				want(t, fmt.Sprint("Refine ", op), []api.Interval{left, right}, []api.Interval{top, top}, e, api.ErrArg)
				left, right, e = Refine(op, top, a)
				want(t, fmt.Sprint("Refine ", op), []api.Interval{left, right}, []api.Interval{top, top}, e, api.ErrArg)
			}
		}
	}
}

func TestP21_1Examples(t *testing.T) {
	for i, c := range []struct {
		call    func(a, b api.Interval) (api.Interval, api.Errno)
		a, b, w api.Interval
	}{
		{Mul, rangeOf("-2", "3"), rangeOf("-5", "4"), rangeOf("-15", "12")}, {Mul, rangeOf("1", ""), rangeOf("0", "2"), rangeOf("0", "")},
		{Quo, rangeOf("-7", "7"), rangeOf("-2", "3"), rangeOf("-7", "7")}, {Quo, rangeOf("5", "9"), rangeOf("2", "4"), rangeOf("1", "4")}, {Quo, rangeOf("1", "2"), rangeOf("0", "0"), empty},
		{Rem, rangeOf("5", "9"), rangeOf("4", "4"), rangeOf("0", "3")}, {Rem, rangeOf("5", "6"), rangeOf("4", "4"), rangeOf("1", "2")}, {Rem, rangeOf("-1", "2"), rangeOf("-3", "-3"), rangeOf("-2", "0")}, {Rem, rangeOf("0", "9"), rangeOf("3", "20"), rangeOf("0", "9")},
		{Narrow, rangeOf("0", ""), rangeOf("2", "9"), rangeOf("0", "9")},
	} {
		got, e := c.call(c.a, c.b)
		want(t, fmt.Sprint("example ", i), got, c.w, e, api.OK)
	}
}

// holds reports whether a big integer is in an interval that is well-formed. One with too many digits may be outside of the bounds that are left.
func holds(t *testing.T, a api.Interval, x *big.Int) bool {
	t.Helper()
	if clip(x) == "" {
		return true
	}
	ok, e := Holds(a, api.Int(x.String()))
	want(t, "Holds", 0, 0, e, api.OK)
	return ok
}

func TestP21_3Elements(t *testing.T) {
	r := rand.New(rand.NewSource(2))
	for range 5000 {
		a, b := randomInterval(r), randomInterval(r)
		if a.Empty || b.Empty {
			continue
		}
		x, y := randomMember(r, a), randomMember(r, b)
		what := fmt.Sprint(" of ", x, " in ", a, " and ", y, " in ", b)
		for _, o := range binary {
			if z := o.compute(x, y); z != nil {
				got, e := o.call(a, b)
				want(t, o.name+what, holds(t, got, z), true, e, api.OK)
			}
		}
		if y.Sign() != 0 {
			_, z := divide(x, y)
			got, e := Rem(a, b)
			want(t, "Rem"+what, holds(t, got, z), true, e, api.OK)
		}
		got, e := Neg(a)
		want(t, "Neg"+what, holds(t, got, new(big.Int).Neg(x)), true, e, api.OK)
		for op := api.CondEq; op <= api.CondLe; op++ {
			if compare(op, x.Cmp(y)) {
				left, right, e := Refine(op, a, b)
				want(t, fmt.Sprint("Refine ", op, what), holds(t, left, x) && holds(t, right, y), true, e, api.OK)
			}
		}
	}
}

func TestP21_3Lattice(t *testing.T) {
	join := func(a, b api.Interval) api.Interval { c, _ := Join(a, b); return c }
	meet := func(a, b api.Interval) api.Interval { c, _ := Meet(a, b); return c }
	leq := func(a, b api.Interval) bool { ok, _ := Leq(a, b); return ok }
	list := append(smallIntervals(1), rangeOf("-"+nines, nines), rangeOf("2", "2"), rangeOf(nines, ""))
	for _, a := range list {
		for _, b := range list {
			what := fmt.Sprint(a, " and ", b)
			want(t, what, []api.Interval{join(a, b), meet(a, b), join(a, meet(a, b)), meet(a, join(a, b))}, []api.Interval{join(b, a), meet(b, a), a, a}, 0, 0)
			want(t, what, []bool{leq(a, join(a, b)), leq(meet(a, b), a), leq(a, b), leq(a, b)}, []bool{true, true, join(a, b) == b, meet(a, b) == a}, 0, 0)
			for _, c := range list {
				want(t, fmt.Sprint(what, " and ", c), []bool{leq(join(a, b), c), leq(c, meet(a, b))}, []bool{leq(a, c) && leq(b, c), leq(c, a) && leq(c, b)}, 0, 0)
			}
		}
	}
}
