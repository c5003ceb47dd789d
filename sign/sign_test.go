package sign

import (
	"fmt"
	"math"
	"math/rand"
	"strings"
	"testing"

	"surveyor/api"
	"surveyor/bigint"
)

// want reports an error if a value or an error number is not the expected one.
func want(t *testing.T, what string, got, wanted any, e, wantedError api.Errno) {
	t.Helper()
	if g, w := fmt.Sprintf("%+v", got), fmt.Sprintf("%+v", wanted); g != w || e != wantedError {
		t.Errorf("%.200s: got %.200s, %d, want %.200s, %d", what, g, e, w, wantedError)
	}
}

var (
	longest = api.Int(strings.Repeat("9", api.MaxLong))
	tooLong = longest + "9"
	strange = []int{-1, 8, -8, 16, 1 << 40, math.MaxInt, math.MinInt} // no sets
)

// faulty are integers with errors.
var faulty = []struct {
	a api.Int
	e api.Errno
}{{"", api.ErrForm}, {"-", api.ErrForm}, {"-0", api.ErrForm}, {"00", api.ErrForm}, {"01", api.ErrForm}, {"+1", api.ErrForm}, {" 1", api.ErrForm}, {"x", api.ErrForm}, {"1.0", api.ErrForm}, {tooLong, api.ErrLarge}, {"-" + tooLong, api.ErrLarge}, {tooLong + "x", api.ErrForm}}

// setOf is the set of the sign of an int.
func setOf(a int) int {
	switch {
	case a < 0:
		return 1
	case a == 0:
		return 2
	}
	return 4
}

// integers are enough of the integers of a set to have all signs of results.
func integers(s int) []int {
	var out []int
	for a := -6; a <= 6; a++ {
		if setOf(a)&s != 0 {
			out = append(out, a)
		}
	}
	return out
}

func TestP19_1Check(t *testing.T) {
	for s := range 8 {
		want(t, fmt.Sprint("Check ", s), 0, 0, Check(s), api.OK)
	}
	for _, s := range strange {
		want(t, fmt.Sprint("Check ", s), 0, 0, Check(s), api.ErrRange)
	}
}

func TestP19_1Of(t *testing.T) {
	for _, c := range []struct {
		a api.Int
		s int
	}{{"0", 2}, {"1", 4}, {"-1", 1}, {"10", 4}, {"-10", 1}, {"12345678901234567890", 4}, {"-12345678901234567890", 1}, {longest, 4}, {"-" + longest, 1}} {
		s, e := Of(c.a)
		want(t, "Of "+string(c.a), s, c.s, e, api.OK)
	}
	for _, c := range faulty {
		s, e := Of(c.a)
		want(t, "Of "+string(c.a), s, 0, e, c.e)
	}
}

func TestP19_1Holds(t *testing.T) {
	for s := range 8 {
		for a := -3; a <= 3; a++ {
			holds, e := Holds(s, bigint.Of(a))
			want(t, fmt.Sprint("Holds ", s, " ", a), holds, s&setOf(a) != 0, e, api.OK)
		}
		holds, e := Holds(s, longest)
		want(t, fmt.Sprint("Holds ", s), holds, s >= 4, e, api.OK)
		holds, e = Holds(s, "-"+longest)
		want(t, fmt.Sprint("Holds ", s), holds, s%2 == 1, e, api.OK)
		for _, c := range faulty {
			holds, e := Holds(s, c.a)
			want(t, fmt.Sprint("Holds ", s, " ", c.a), holds, false, e, c.e)
		}
	}
	for _, s := range strange {
		for _, a := range []api.Int{"0", "1", "-1", "x", tooLong} {
			holds, e := Holds(s, a)
			want(t, fmt.Sprint("Holds ", s, " ", a), holds, false, e, api.ErrRange)
		}
	}
}

func TestP19_1Order(t *testing.T) {
	for s := range 8 {
		for u := range 8 {
			isPart, union, common := true, 0, 0
			for _, sign := range []int{1, 2, 4} {
				inS, inU := s&sign != 0, u&sign != 0
				isPart = isPart && (!inS || inU)
				if inS || inU {
					union += sign
				}
				if inS && inU {
					common += sign
				}
			}
			what := fmt.Sprint(" of ", s, " and ", u)
			leq, e := Leq(s, u)
			want(t, "Leq"+what, leq, isPart, e, api.OK)
			join, e := Join(s, u)
			want(t, "Join"+what, join, union, e, api.OK)
			meet, e := Meet(s, u)
			want(t, "Meet"+what, meet, common, e, api.OK)
		}
	}
}

func TestP19_1Format(t *testing.T) {
	for s, name := range strings.Fields("none negative zero nonpositive positive nonzero nonnegative any") {
		got, e := Format(s)
		want(t, fmt.Sprint("Format ", s), got, name, e, api.OK)
	}
}

// operations are those on two sets, with the results for two integers where there is one.
var operations = []struct {
	name   string
	call   func(s, t int) (int, api.Errno)
	result func(a, b int) (int, bool)
	long   func(a, b api.Int) (api.Int, api.Errno)
}{
	{"Add", Add, func(a, b int) (int, bool) { return a + b, true }, bigint.Add},
	{"Sub", Sub, func(a, b int) (int, bool) { return a - b, true }, bigint.Sub},
	{"Mul", Mul, func(a, b int) (int, bool) { return a * b, true }, bigint.Mul},
	{"Quo", Quo, func(a, b int) (int, bool) {
		if b == 0 {
			return 0, false
		}
		return int(math.Floor(float64(a) / float64(b))), true
	}, bigint.Quo},
	{"Rem", Rem, func(a, b int) (int, bool) {
		if b == 0 {
			return 0, false
		}
		return a - b*int(math.Floor(float64(a)/float64(b))), true
	}, bigint.Rem},
}

// comparisons are those of Refine.
var comparisons = map[int]func(a, b int) bool{
	api.CondEq: func(a, b int) bool { return a == b },
	api.CondNe: func(a, b int) bool { return a != b },
	api.CondLt: func(a, b int) bool { return a < b },
	api.CondLe: func(a, b int) bool { return a <= b },
}

func TestP19_2Examples(t *testing.T) {
	const negative, zero, nonpositive, positive, nonnegative, any = 1, 2, 3, 4, 6, 7
	for i, c := range []struct {
		call         func(s, t int) (int, api.Errno)
		s, u, result int
	}{
		{Add, positive, negative, any}, {Add, nonnegative, positive, positive}, {Quo, positive, positive, nonnegative}, {Quo, positive, negative, negative}, {Rem, any, positive, nonnegative}, {Rem, any, zero, 0},
	} {
		result, e := c.call(c.s, c.u)
		want(t, fmt.Sprint("example ", i), result, c.result, e, api.OK)
	}
	s, u, e := Refine(api.CondLt, any, zero)
	want(t, "Refine", []int{s, u}, []int{negative, zero}, e, api.OK)
	s, u, e = Refine(api.CondLe, nonnegative, nonpositive)
	want(t, "Refine", []int{s, u}, []int{zero, zero}, e, api.OK)
}

func TestP19_2Operations(t *testing.T) {
	for s := range 8 {
		negated := 0
		for _, a := range integers(s) {
			negated |= setOf(-a)
		}
		got, e := Neg(s)
		want(t, fmt.Sprint("Neg ", s), got, negated, e, api.OK)
		for u := range 8 {
			for _, o := range operations {
				result := 0
				for _, a := range integers(s) {
					for _, b := range integers(u) {
						if c, ok := o.result(a, b); ok {
							result |= setOf(c)
						}
					}
				}
				got, e := o.call(s, u)
				want(t, fmt.Sprint(o.name, " ", s, " ", u), got, result, e, api.OK)
			}
		}
	}
}

func TestP19_2Refine(t *testing.T) {
	for op, compare := range comparisons {
		for s := range 8 {
			for u := range 8 {
				left, right := 0, 0
				for _, a := range integers(s) {
					for _, b := range integers(u) {
						if compare(a, b) {
							left |= setOf(a)
							right |= setOf(b)
						}
					}
				}
				v, w, e := Refine(op, s, u)
				want(t, fmt.Sprint("Refine ", op, " ", s, " ", u), []int{v, w}, []int{left, right}, e, api.OK)
			}
		}
	}
}

// TestErrors has sets that are none, in all places (P19.1, P19.2).
func TestErrors(t *testing.T) {
	for _, bad := range strange {
		what := fmt.Sprint(" of ", bad)
		negated, e := Neg(bad)
		want(t, "Neg"+what, negated, 0, e, api.ErrRange)
		name, e := Format(bad)
		want(t, "Format"+what, name, "", e, api.ErrRange)
		for _, pair := range [][2]int{{bad, 0}, {bad, 7}, {0, bad}, {7, bad}, {bad, bad}, {bad, -1}} {
			s, u := pair[0], pair[1]
			what := fmt.Sprint(" of ", s, " and ", u)
			leq, e := Leq(s, u)
			want(t, "Leq"+what, leq, false, e, api.ErrRange)
			join, e := Join(s, u)
			want(t, "Join"+what, join, 0, e, api.ErrRange)
			meet, e := Meet(s, u)
			want(t, "Meet"+what, meet, 0, e, api.ErrRange)
			for _, o := range operations {
				result, e := o.call(s, u)
				want(t, o.name+what, result, 0, e, api.ErrRange)
			}
			for op := range comparisons {
				v, w, e := Refine(op, s, u)
				want(t, "Refine"+what, []int{v, w}, []int{0, 0}, e, api.ErrRange)
			}
		}
	}
	for _, op := range []int{-1, api.CondTrue, api.CondFalse, api.CondNot, api.CondAnd, api.CondOr, 9, 1 << 40, math.MaxInt, math.MinInt} {
		for _, pair := range [][2]int{{0, 0}, {7, 7}, {3, 5}, {-1, 7}, {7, 8}, {-1, 8}} {
			v, w, e := Refine(op, pair[0], pair[1])
			want(t, fmt.Sprint("Refine ", op, pair), []int{v, w}, []int{0, 0}, e, api.ErrArg)
		}
	}
}

// randomInt returns an integer of up to 60 digits, often a short one.
func randomInt(r *rand.Rand) api.Int {
	if r.Intn(2) == 0 {
		return bigint.Of(r.Intn(9) - 4)
	}
	text := []string{"", "-"}[r.Intn(2)] + string(rune('1'+r.Intn(9)))
	for range r.Intn(60) {
		text += string(rune('0' + r.Intn(10)))
	}
	return api.Int(text)
}

func TestP19_3Integers(t *testing.T) {
	r := rand.New(rand.NewSource(1))
	for range 20000 {
		a, b := randomInt(r), randomInt(r)
		s, _ := Of(a)
		u, _ := Of(b)
		s, u = s|r.Intn(8), u|r.Intn(8)
		for _, o := range operations {
			value, fault := o.long(a, b)
			if fault != api.OK {
				continue
			}
			result, _ := o.call(s, u)
			holds, e := Holds(result, value)
			want(t, fmt.Sprint(o.name, " of ", a, " in ", s, " and ", b, " in ", u), holds, true, e, api.OK)
		}
		order, _ := bigint.Compare(a, b)
		for op, compare := range comparisons {
			if !compare(order, 0) {
				continue
			}
			v, w, _ := Refine(op, s, u)
			left, e := Holds(v, a)
			want(t, fmt.Sprint("Refine ", op, " with ", a, " in ", s), left, true, e, api.OK)
			right, e := Holds(w, b)
			want(t, fmt.Sprint("Refine ", op, " with ", b, " in ", u), right, true, e, api.OK)
		}
	}
}

func TestP19_3Sets(t *testing.T) {
	for s := range 8 {
		negated, _ := Neg(s)
		twice, e := Neg(negated)
		want(t, fmt.Sprint("Neg twice of ", s), twice, s, e, api.OK)
		for u := range 8 {
			for greater := range 8 {
				checkGreater(t, s, u, s|greater)
			}
			for op := range comparisons {
				v, w, _ := Refine(op, s, u)
				again, too, e := Refine(op, v, w)
				want(t, fmt.Sprint("Refine twice ", op, " of ", s, " and ", u), []int{again, too}, []int{v, w}, e, api.OK)
			}
		}
	}
}

// checkGreater checks that a greater set in the place of s, on either side, has greater results.
func checkGreater(t *testing.T, s, u, greater int) {
	t.Helper()
	what := fmt.Sprint(" of ", s, " or ", greater, " with ", u)
	for _, o := range operations {
		result, _ := o.call(s, u)
		more, _ := o.call(greater, u)
		isPart, e := Leq(result, more)
		want(t, o.name+what, isPart, true, e, api.OK)
		result, _ = o.call(u, s)
		more, _ = o.call(u, greater)
		isPart, e = Leq(result, more)
		want(t, o.name+what+", exchanged", isPart, true, e, api.OK)
	}
	for op := range comparisons {
		v, w, _ := Refine(op, s, u)
		x, y, e := Refine(op, greater, u)
		want(t, fmt.Sprint("Refine ", op, what), []int{v &^ x, w &^ y}, []int{0, 0}, e, api.OK)
	}
}
