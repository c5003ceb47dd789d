package interval

import (
	"fmt"
	"math/rand"
	"slices"
	"testing"

	"surveyor/api"
)

func TestP21_2Examples(t *testing.T) {
	for i, c := range []struct {
		op         int
		a, b, p, q api.Interval
	}{
		{api.CondLt, rangeOf("0", "9"), rangeOf("2", "4"), rangeOf("0", "3"), rangeOf("2", "4")}, {api.CondNe, rangeOf("0", "9"), rangeOf("2", "4"), rangeOf("0", "9"), rangeOf("2", "4")}, {api.CondNe, rangeOf("4", "9"), rangeOf("4", "4"), rangeOf("5", "9"), rangeOf("4", "4")},
		// With the original a, b loses nothing, although a has one element in the end.
		{api.CondNe, rangeOf("4", "5"), rangeOf("5", "5"), rangeOf("4", "4"), rangeOf("5", "5")}, {api.CondNe, rangeOf("4", "4"), rangeOf("4", "5"), rangeOf("4", "4"), rangeOf("5", "5")}, {api.CondNe, rangeOf("4", "4"), rangeOf("4", "4"), empty, empty}, {api.CondNe, rangeOf("3", "5"), rangeOf("4", "4"), rangeOf("3", "5"), rangeOf("4", "4")}, {api.CondNe, empty, rangeOf("4", "4"), empty, empty}, {api.CondNe, rangeOf("4", "4"), empty, empty, empty},
		{api.CondEq, rangeOf("0", "4"), rangeOf("3", ""), rangeOf("3", "4"), rangeOf("3", "4")}, {api.CondEq, rangeOf("0", "2"), rangeOf("3", ""), empty, empty},
		{api.CondLt, rangeOf("4", ""), rangeOf("", "4"), empty, empty}, {api.CondLe, rangeOf("4", ""), rangeOf("", "4"), rangeOf("4", "4"), rangeOf("4", "4")}, {api.CondLe, top, empty, empty, empty}, {api.CondLt, empty, top, empty, empty}, {api.CondLt, top, top, top, top},
		// Bounds of results that have too many digits are left out, but not before a is known to be empty.
		{api.CondLt, rangeOf("-"+nines, "5"), rangeOf("", "-"+nines), empty, empty}, {api.CondLt, rangeOf("", "5"), rangeOf("", "-"+nines), top, rangeOf("", "-"+nines)}, {api.CondLt, rangeOf(nines, ""), rangeOf("5", ""), rangeOf(nines, ""), top}, {api.CondLt, rangeOf(nines, ""), rangeOf("5", nines), empty, empty}, {api.CondLe, rangeOf("", "5"), rangeOf("", "-"+nines), rangeOf("", "-"+nines), rangeOf("", "-"+nines)}, {api.CondNe, rangeOf(nines, ""), rangeOf(nines, nines), top, rangeOf(nines, nines)}, {api.CondNe, rangeOf("-"+nines, "-"+nines), rangeOf("", "-"+nines), rangeOf("-"+nines, "-"+nines), top},
	} {
		p, q, e := Refine(c.op, c.a, c.b)
		want(t, fmt.Sprint("Refine ", i), []api.Interval{p, q}, []api.Interval{c.p, c.q}, e, api.OK)
	}
}

// TestP21_2Refine compares what is left with the least intervals of the integers for which the comparison is true.
func TestP21_2Refine(t *testing.T) {
	list := smallIntervals(4)
	for _, a := range list {
		for _, b := range list {
			for op := api.CondEq; op <= api.CondLe; op++ {
				left, right, e := Refine(op, a, b)
				p := least(func(n int) []int { return fitting(a, b, n, func(x, y int) bool { return compare(op, x-y) }) })
				q := least(func(n int) []int { return fitting(b, a, n, func(y, x int) bool { return compare(op, x-y) }) })
				want(t, fmt.Sprint("Refine ", op, " of ", a, " and ", b), []api.Interval{left, right}, []api.Interval{p, q}, e, api.OK)
			}
		}
	}
}

// fitting returns the ints of a from -n to n for which one of b makes a comparison true.
func fitting(a, b api.Interval, n int, isTrue func(x, y int) bool) []int {
	others := members(b, n)
	return slices.DeleteFunc(members(a, n), func(x int) bool {
		return !slices.ContainsFunc(others, func(y int) bool { return isTrue(x, y) })
	})
}

// TestP21_2Rem compares remainders by one divisor with the least intervals, and all others with the definition.
func TestP21_2Rem(t *testing.T) {
	list := smallIntervals(5)
	for _, a := range list {
		for _, b := range list {
			got, e := Rem(a, b)
			what := fmt.Sprint("Rem of ", a, " and ", b)
			want(t, what, got, referenceRem(setOf(a), setOf(b)).interval(), e, api.OK)
			remainders := func(n int) []int {
				return smallResults(a, b, n, func(x, y int) (int, bool) {
					if y == 0 {
						return 0, false
					}
					return x - y*floor(x, y), true
				})
			}
			if b.Lo == b.Hi {
				want(t, what, got, least(remainders), 0, 0)
			}
			for _, z := range remainders(12) {
				if !isSmall(got, z) {
					t.Errorf("%s: %v without %d", what, got, z)
				}
			}
		}
	}
	for i, c := range []struct{ a, b, w api.Interval }{
		{rangeOf("0", "2"), rangeOf("3", "5"), rangeOf("0", "2")}, {rangeOf("1", "2"), rangeOf("3", ""), rangeOf("1", "2")}, {rangeOf("1", "3"), rangeOf("3", "9"), rangeOf("0", "3")}, {rangeOf("1", "30"), rangeOf("3", "9"), rangeOf("0", "8")}, {rangeOf("1", "30"), rangeOf("3", ""), rangeOf("0", "30")}, {rangeOf("1", ""), rangeOf("3", ""), rangeOf("0", "")}, {rangeOf("-1", "30"), rangeOf("3", ""), rangeOf("0", "")}, {rangeOf("-1", "1"), rangeOf("3", "9"), rangeOf("0", "8")},
		{rangeOf("1", "2"), rangeOf("-5", "-3"), rangeOf("-4", "0")}, {rangeOf("-2", "-1"), rangeOf("-5", "-3"), rangeOf("-2", "-1")}, {rangeOf("1", "2"), rangeOf("-5", "5"), rangeOf("-4", "2")}, {top, top, top}, {rangeOf("4", "4"), rangeOf("-1", "1"), rangeOf("0", "0")}, {rangeOf("4", "4"), rangeOf("0", "0"), empty}, {empty, top, empty}, {top, empty, empty}, {rangeOf("5", ""), rangeOf("7", "7"), rangeOf("0", "6")}, {rangeOf("7", "13"), rangeOf("7", "7"), rangeOf("0", "6")}, {rangeOf("8", "13"), rangeOf("7", "7"), rangeOf("1", "6")}, {rangeOf("13", "14"), rangeOf("7", "7"), rangeOf("0", "6")},
	} {
		got, e := Rem(c.a, c.b)
		want(t, fmt.Sprint("Rem ", i), got, c.w, e, api.OK)
	}
}

// randomThresholds returns thresholds in order.
func randomThresholds(r *rand.Rand) []api.Int {
	var list []api.Int
	for range r.Intn(6) {
		if b := randomBound(r); b != "" && !slices.Contains(list, b) {
			list = append(list, b)
		}
	}
	slices.SortFunc(list, func(x, y api.Int) int { return parse(x).Cmp(parse(y)) })
	return list
}

func TestP21_2Widen(t *testing.T) {
	for i, c := range []struct {
		a, b       api.Interval
		thresholds []api.Int
		w          api.Interval
	}{
		{rangeOf("0", "5"), rangeOf("0", "7"), []api.Int{"6", "10"}, rangeOf("0", "10")}, {rangeOf("0", "5"), rangeOf("0", "7"), nil, rangeOf("0", "")},
		{rangeOf("0", "5"), rangeOf("0", "7"), []api.Int{"6"}, rangeOf("0", "")}, {rangeOf("0", "5"), rangeOf("0", "7"), []api.Int{"7", "8"}, rangeOf("0", "7")}, {rangeOf("0", "5"), rangeOf("1", "4"), []api.Int{"-1", "6"}, rangeOf("0", "5")}, {rangeOf("0", "5"), rangeOf("-3", "9"), []api.Int{"-5", "-4", "-2", "6", "20", "30"}, rangeOf("-4", "20")}, {rangeOf("0", "5"), rangeOf("-3", "9"), []api.Int{"-3", "9"}, rangeOf("-3", "9")}, {rangeOf("0", "5"), rangeOf("-3", "9"), []api.Int{"-2", "8"}, top}, {rangeOf("0", "5"), rangeOf("-3", "9"), []api.Int{"50"}, rangeOf("", "50")}, {rangeOf("0", "5"), top, []api.Int{"-5", "20"}, top}, {top, rangeOf("0", "5"), []api.Int{"-5", "20"}, top}, {rangeOf("", "5"), rangeOf("-3", "9"), []api.Int{"-5", "20"}, rangeOf("", "20")},
		{empty, rangeOf("-3", "9"), []api.Int{"-5", "20"}, rangeOf("-3", "9")}, {rangeOf("-3", "9"), empty, []api.Int{"-5", "20"}, rangeOf("-3", "9")}, {empty, empty, nil, empty}, {rangeOf("0", "0"), rangeOf("0", nines), []api.Int{nines}, rangeOf("0", nines)},
	} {
		got, e := Widen(c.a, c.b, c.thresholds)
		want(t, fmt.Sprint("Widen ", i), got, c.w, e, api.OK)
	}
	r := rand.New(rand.NewSource(3))
	for range 20000 {
		a, b, thresholds := randomInterval(r), randomInterval(r), randomThresholds(r)
		got, e := Widen(a, b, thresholds)
		want(t, fmt.Sprint("Widen of ", a, " and ", b, " with ", thresholds), got, referenceWiden(a, b, thresholds), e, api.OK)
	}
}

func TestP21_2Thresholds(t *testing.T) {
	var most []api.Int
	for i := range api.MaxList {
		most = append(most, api.Int(fmt.Sprint(2*i)))
	}
	for i, c := range []struct {
		thresholds []api.Int
		e          api.Errno
	}{
		{append(slices.Clone(most), "3000"), api.ErrMany}, {append(slices.Clone(most), "x"), api.ErrMany}, {make([]api.Int, api.MaxList+1), api.ErrMany}, {make([]api.Int, api.MaxList), api.ErrForm},
		{[]api.Int{""}, api.ErrForm}, {[]api.Int{"x"}, api.ErrForm}, {[]api.Int{"1", "-0"}, api.ErrForm}, {[]api.Int{"1", "01"}, api.ErrForm}, {[]api.Int{"5", "x", "3"}, api.ErrForm}, {[]api.Int{"x", huge}, api.ErrForm},
		{[]api.Int{huge}, api.ErrLarge}, {[]api.Int{"1", huge}, api.ErrLarge}, {[]api.Int{"1", "-" + power}, api.ErrLarge}, {[]api.Int{tooLong}, api.ErrLarge}, {[]api.Int{huge, "x"}, api.ErrLarge},
		{[]api.Int{"1", "1"}, api.ErrOrder}, {[]api.Int{"5", "3", "x"}, api.ErrOrder}, {[]api.Int{"9", "10", "9"}, api.ErrOrder}, {[]api.Int{"-9", "-10", huge}, api.ErrOrder}, {[]api.Int{nines, "-" + nines}, api.ErrOrder},
	} {
		for _, a := range []api.Interval{empty, top, rangeOf("0", "5")} {
			got, e := Widen(a, rangeOf("0", "7"), c.thresholds)
			want(t, fmt.Sprint("Widen ", i), got, top, e, c.e)
			got, e = Widen(rangeOf("0", "7"), a, c.thresholds)
			want(t, fmt.Sprint("Widen ", i), got, top, e, c.e)
		}
	}
	got, e := Widen(rangeOf("0", "5"), rangeOf("0", "7"), most)
	want(t, "Widen", got, rangeOf("0", "8"), e, api.OK)
	got, e = Widen(rangeOf("0", "5"), rangeOf("0", "2047"), most)
	want(t, "Widen", got, rangeOf("0", ""), e, api.OK)
}

func TestP21_2Narrow(t *testing.T) {
	list := smallIntervals(3)
	for _, a := range list {
		for _, b := range list {
			got, e := Narrow(a, b)
			want(t, fmt.Sprint("Narrow of ", a, " and ", b), got, referenceNarrow(a, b), e, api.OK)
		}
	}
	for i, c := range []struct{ a, b, w api.Interval }{
		{rangeOf("0", "5"), rangeOf("2", "3"), rangeOf("0", "5")}, {rangeOf("", "5"), rangeOf("2", "3"), rangeOf("2", "5")}, {rangeOf("", "5"), rangeOf("6", "9"), empty}, {rangeOf("6", ""), rangeOf("0", "5"), empty}, {top, rangeOf("2", "3"), rangeOf("2", "3")}, {rangeOf("0", "5"), rangeOf("7", "9"), rangeOf("0", "5")}, {rangeOf("0", "5"), empty, empty}, {empty, top, empty}, {top, top, top},
	} {
		got, e := Narrow(c.a, c.b)
		want(t, fmt.Sprint("Narrow ", i), got, c.w, e, api.OK)
	}
}

func TestP21_2Format(t *testing.T) {
	for wanted, a := range map[string]api.Interval{"empty": empty, "[-inf, +inf]": top, "[0, +inf]": rangeOf("0", ""), "[-inf, -3]": rangeOf("", "-3"), "[-7, 7]": rangeOf("-7", "7"), "[4, 4]": rangeOf("4", "4"), "[-" + string(nines) + ", " + string(nines) + "]": rangeOf("-"+nines, nines)} {
		text, e := Format(a)
		want(t, "Format "+wanted, text, wanted, e, api.OK)
	}
}

func TestP21_3Widening(t *testing.T) {
	r := rand.New(rand.NewSource(4))
	leq := func(a, b api.Interval) bool { ok, _ := Leq(a, b); return ok }
	for range 1000 {
		thresholds := randomThresholds(r)
		a, changes := randomInterval(r), 0
		for range 40 {
			b := randomInterval(r)
			wider, e := Widen(a, b, thresholds)
			want(t, fmt.Sprint("Widen of ", a, " and ", b), leq(a, wider) && leq(b, wider), true, e, api.OK)
			if wider != a {
				changes++
			}
			a = wider
		}
		// Once there is a first interval, each bound can only become another threshold, or none.
		if changes > 2*len(thresholds)+3 {
			t.Errorf("%d changes with the thresholds %v", changes, thresholds)
		}
	}
	for range 5000 {
		a, b := randomInterval(r), randomInterval(r)
		less, e := Meet(a, b)
		want(t, "Meet", 0, 0, e, api.OK)
		got, e := Narrow(a, less)
		want(t, fmt.Sprint("Narrow of ", a, " and ", less), leq(less, got) && leq(got, a), true, e, api.OK)
	}
}

// TestP21Arguments checks that arguments remain as they are (P21.2).
func TestP21Arguments(t *testing.T) {
	thresholds := []api.Int{"-5", "6", "10", "99"}
	before := slices.Clone(thresholds)
	if _, e := Widen(rangeOf("0", "5"), rangeOf("0", "7"), thresholds[:3]); e != api.OK || !slices.Equal(thresholds, before) {
		t.Errorf("Widen: %v, %d", thresholds, e)
	}
}
