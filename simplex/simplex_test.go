package simplex

import (
	"fmt"
	"math"
	"math/big"
	"math/rand"
	"slices"
	"testing"

	"surveyor/api"
)

func TestP5_1Check(t *testing.T) {
	n := longest()
	for _, c := range []struct {
		c api.Linear
		l []api.Fact
	}{
		{lin("0"), nil}, {lin("0", "1", "1/2"), triangle()}, {lin("0"), list(ge("-1"), eq("5"))}, {lin("1/"+api.Rat(n), "-"+api.Rat(n)), slices.Repeat(list(ge("-"+n, n)), api.MaxFacts)}, {lin("0", slices.Repeat([]api.Rat{"1"}, api.MaxDims)...), list(eq("0", slices.Repeat([]api.Int{"0"}, api.MaxDims)...))},
	} {
		want(t, "Check of "+short(c), Check(c.c, c.l), api.OK, 0, 0)
	}
	for _, bad := range badPrograms() {
		want(t, "Check of "+short(bad), Check(bad.c, bad.l), bad.e, 0, 0)
	}
}

// TestFirstErrors checks that the errors of programs come before all others (P5.1 and P5.2).
func TestFirstErrors(t *testing.T) {
	for _, bad := range badPrograms() {
		what := " of " + short(bad)
		o, e := Maximize(bad.c, bad.l)
		want(t, "Maximize"+what, o, api.Optimum{}, e, bad.e)
		o, e = Minimize(bad.c, bad.l)
		want(t, "Minimize"+what, o, api.Optimum{}, e, bad.e)
		want(t, "Verify"+what, Verify(bad.c, bad.l, api.Optimum{Verdict: 7}), bad.e, 0, 0)
		least, greatest, e := Bounds(bad.c, bad.l)
		want(t, "Bounds"+what, []api.Rat{least, greatest}, []api.Rat{"", ""}, e, bad.e)
		if Check(bad.c, nil) != api.OK {
			continue
		}
		ok, point, mult, e := Feasible(bad.l, 2)
		want(t, "Feasible"+what, []any{ok, len(point), len(mult)}, []any{false, 0, 0}, e, bad.e)
		ok, e = Implied(bad.l, ge("x", "1", "1"))
		want(t, "Implied"+what, ok, false, e, bad.e)
		indices, e := Essential(bad.l, 2)
		want(t, "Essential"+what, len(indices), 0, e, bad.e)
		for _, n := range []int{-1, api.MaxDims + 1, math.MinInt, math.MaxInt} {
			ok, point, mult, e := Feasible(bad.l, n)
			want(t, "Feasible without a size"+what, []any{ok, len(point), len(mult)}, []any{false, 0, 0}, e, api.ErrRange)
			indices, e := Essential(bad.l, n)
			want(t, "Essential without a size"+what, len(indices), 0, e, api.ErrRange)
		}
	}
	for _, bad := range badConstraints() {
		if len(bad.f.Coef) == 2 {
			ok, e := Implied(triangle(), bad.f)
			want(t, "Implied for "+short(bad.f), ok, false, e, bad.e)
		}
	}
	many := slices.Repeat([]api.Int{"1"}, api.MaxDims+1)
	ok, e := Implied(nil, ge("x", many...))
	want(t, "Implied for a constraint that is too long", ok, false, e, api.ErrMany)
	ok, e = Implied(list(ge("0", many...)), api.Fact{Op: 9, Coef: many})
	want(t, "Implied for a constraint that is too long", ok, false, e, api.ErrMany)
	ok, e = Implied(triangle(), ge("x", "1"))
	want(t, "Implied for a constraint over other variables", ok, false, e, api.ErrShape)
	ok, e = Implied(list(ge("x", "1")), ge("x", "1", "1"))
	want(t, "Implied by constraints over other variables", ok, false, e, api.ErrShape)
}

// checkMaximum checks a result of Maximize, and that of Minimize for the opposite objective.
func checkMaximum(t *testing.T, c api.Linear, l []api.Fact) api.Optimum {
	t.Helper()
	o, e := Maximize(c, l)
	if e != api.OK || !isRightResult(c, l, o) {
		t.Fatalf("Maximize of %s with %s: got %s and %d", short(c), short(l), short(o), e)
	}
	want(t, "Verify", Verify(c, l, o), api.OK, 0, 0)
	opposite := lin(toText(new(big.Rat).Neg(toRat(string(c.Const)))))
	for _, x := range c.Coef {
		opposite.Coef = append(opposite.Coef, toText(new(big.Rat).Neg(toRat(string(x)))))
	}
	p, e := Minimize(opposite, l)
	if p.Value != "" {
		p.Value = toText(new(big.Rat).Neg(toRat(string(p.Value))))
	}
	if e != api.OK || p.Verdict != o.Verdict || p.Value != o.Value || !isRightResult(c, l, p) {
		t.Fatalf("Minimize of %s with %s: got %s and %d", short(opposite), short(l), short(p), e)
	}
	return o
}

func TestP5_2Examples(t *testing.T) {
	c := lin("0", "1", "1")
	o, e := Maximize(c, triangle())
	want(t, "Maximize", o, api.Optimum{Verdict: api.ProgramOptimal, Value: "4", Point: []api.Rat{"4", "0"}, Mult: []api.Rat{"0", "1", "1"}}, e, api.OK)
	o, e = Minimize(c, triangle())
	want(t, "Minimize", o, api.Optimum{Verdict: api.ProgramOptimal, Value: "0", Point: []api.Rat{"0", "0"}, Mult: []api.Rat{"1", "1", "0"}}, e, api.OK)
	o = checkMaximum(t, c, triangle()[:2])
	want(t, "Maximize", o.Verdict, api.ProgramUnbounded, 0, 0)
	o, e = Maximize(c, append(triangle(), ge("-1", "-1", "0")))
	want(t, "Maximize", o, api.Optimum{Verdict: api.ProgramInfeasible, Mult: []api.Rat{"1", "0", "0", "1"}}, e, api.OK)
	o, e = Minimize(c, append(triangle(), ge("-1", "-1", "0")))
	want(t, "Minimize", o, api.Optimum{Verdict: api.ProgramInfeasible, Mult: []api.Rat{"1", "0", "0", "1"}}, e, api.OK)
}

func TestP5_2Small(t *testing.T) {
	for _, c := range []struct {
		c       api.Linear
		l       []api.Fact
		verdict int
		value   api.Rat
	}{
		{lin("7/2"), nil, api.ProgramOptimal, "7/2"}, {lin("-3"), list(ge("0"), eq("0")), api.ProgramOptimal, "-3"}, {lin("0"), list(ge("-1")), api.ProgramInfeasible, ""}, {lin("0"), list(eq("5")), api.ProgramInfeasible, ""}, {lin("0"), list(eq("-5")), api.ProgramInfeasible, ""},
		{lin("0", "1"), nil, api.ProgramUnbounded, ""}, {lin("0", "-1"), nil, api.ProgramUnbounded, ""}, {lin("2", "0"), nil, api.ProgramOptimal, "2"}, {lin("2", "0", "0"), list(ge("-1", "1", "0")), api.ProgramOptimal, "2"}, {lin("2", "0", "1/7"), list(ge("-1", "1", "0")), api.ProgramUnbounded, ""}, {lin("2", "0", "-1/7"), list(ge("-1", "1", "0")), api.ProgramUnbounded, ""},
		{lin("1/2", "1/3"), list(eq("-3", "2")), api.ProgramOptimal, "1"}, {lin("0", "1", "1"), list(eq("-3", "2", "0"), eq("1", "1", "1")), api.ProgramOptimal, "-1"}, {lin("0", "1", "1"), list(eq("-3", "2", "2"), eq("3", "-2", "-2")), api.ProgramOptimal, "3/2"}, {lin("0", "1", "1"), list(eq("-3", "2", "2"), eq("2", "-2", "-2")), api.ProgramInfeasible, ""}, {lin("0", "1", "2"), list(eq("-3", "2", "2"), eq("3", "-2", "-2")), api.ProgramUnbounded, ""},
		{lin("0", "-1"), list(ge("-5", "1"), ge("9", "-1")), api.ProgramOptimal, "-5"}, {lin("0", "1"), list(ge("-5", "1"), ge("4", "-1")), api.ProgramInfeasible, ""}, {lin("0", "1"), list(ge("-5", "1"), ge("5", "-1")), api.ProgramOptimal, "5"}, {lin("0", "0"), list(ge("0", "0"), ge("-1", "0")), api.ProgramInfeasible, ""},
		{lin("0", "1", "1"), list(ge("-1", "1", "-1"), ge("-1", "-1", "1")), api.ProgramInfeasible, ""}, {lin("0", "1", "-1"), list(ge("1", "1", "-1"), ge("1", "-1", "1")), api.ProgramOptimal, "1"}, {lin("0", "1", "1"), list(ge("1", "1", "-1"), ge("1", "-1", "1")), api.ProgramUnbounded, ""},
	} {
		o := checkMaximum(t, c.c, c.l)
		want(t, fmt.Sprintf("Maximize of %s with %s", short(c.c), short(c.l)), []any{o.Verdict, o.Value}, []any{c.verdict, c.value}, 0, 0)
	}
}

// TestP5_2Random compares all functions with references.
func TestP5_2Random(t *testing.T) {
	random := rand.New(rand.NewSource(1))
	verdicts := map[int]int{}
	for range 4000 {
		c, l := randomProgram(random)
		n := len(c.Coef)
		o := checkMaximum(t, c, l)
		verdicts[o.Verdict]++
		least, greatest, ok := bounds(c, l)
		wanted := []any{api.ProgramInfeasible, api.Rat("")}
		if ok && greatest == nil {
			wanted[0] = api.ProgramUnbounded
		} else if ok {
			wanted = []any{api.ProgramOptimal, toText(greatest)}
		}
		want(t, "Maximize of "+short(c)+" with "+short(l), []any{o.Verdict, o.Value}, wanted, 0, 0)
		checkFeasible(t, l, n, ok)
		low, high, e := Bounds(c, l)
		if ok {
			want(t, "Bounds of "+short(c)+" with "+short(l), []api.Rat{low, high}, []api.Rat{toText(least), toText(greatest)}, e, api.OK)
		} else {
			want(t, "Bounds of "+short(c)+" with "+short(l), []api.Rat{low, high}, []api.Rat{"", ""}, e, api.ErrEmpty)
		}
	}
	if len(verdicts) != 3 {
		t.Errorf("the verdicts are %v", verdicts)
	}
}

func checkFeasible(t *testing.T, l []api.Fact, n int, wanted bool) {
	t.Helper()
	ok, point, mult, e := Feasible(l, n)
	zero := lin("0", slices.Repeat([]api.Rat{"0"}, n)...)
	switch {
	case e != api.OK || ok != wanted:
		t.Fatalf("Feasible of %s: got %t and %d", short(l), ok, e)
	case ok && (len(mult) > 0 || len(point) != n || !isPoint(l, point)):
		t.Fatalf("Feasible of %s: got %s and %s", short(l), short(point), short(mult))
	case !ok && (len(point) > 0 || len(mult) != len(l) || !addsUp(zero, l, mult, "-1")):
		t.Fatalf("Feasible of %s: got %s and %s", short(l), short(point), short(mult))
	}
}

func TestP5_1Bounds(t *testing.T) {
	for _, c := range []struct {
		c               api.Linear
		l               []api.Fact
		least, greatest api.Rat
		e               api.Errno
	}{
		{lin("0", "1", "1"), triangle(), "0", "4", api.OK}, {lin("-1/2", "1/3", "-1"), triangle(), "-5/2", "5/6", api.OK}, {lin("0", "1", "1"), triangle()[:2], "0", "", api.OK}, {lin("0", "-1", "-1"), triangle()[:2], "", "0", api.OK}, {lin("0", "1", "-1"), triangle()[:2], "", "", api.OK},
		{lin("0", "1", "1"), append(triangle(), ge("-1", "-1", "0")), "", "", api.ErrEmpty}, {lin("5"), nil, "5", "5", api.OK}, {lin("5"), list(ge("-1")), "", "", api.ErrEmpty}, {lin("1/3", "0"), nil, "1/3", "1/3", api.OK},
	} {
		least, greatest, e := Bounds(c.c, c.l)
		want(t, "Bounds of "+short(c.c)+" with "+short(c.l), []api.Rat{least, greatest}, []api.Rat{c.least, c.greatest}, e, c.e)
	}
}

func TestP5_1Implied(t *testing.T) {
	for _, c := range []struct {
		l  []api.Fact
		f  api.Fact
		ok bool
	}{
		{triangle(), ge("5", "-1", "0"), true}, {triangle(), ge("4", "-1", "0"), true}, {triangle(), ge("3", "-1", "0"), false}, {triangle(), ge("0", "0", "0"), true}, {triangle(), ge("-1", "0", "0"), false}, {triangle(), eq("0", "0", "0"), true}, {triangle(), eq("0", "1", "0"), false}, {triangle(), ge("1", "-1", "1"), false},
		{nil, ge("0"), true}, {nil, ge("-1"), false}, {nil, ge("0", "1"), false}, {list(ge("-1")), ge("-5"), true}, {list(ge("-1", "1"), ge("0", "-1")), eq("77", "1"), true},
		{list(ge("-2", "1"), ge("2", "-1")), eq("-2", "1"), true}, {list(ge("-2", "1"), ge("2", "-1")), eq("-4", "2"), true}, {list(ge("-2", "1"), ge("3", "-1")), eq("-2", "1"), false}, {list(ge("-2", "1")), eq("-2", "1"), false}, {list(ge("2", "-1")), eq("-2", "1"), false}, {list(eq("-2", "1")), ge("-2", "1"), true}, {list(eq("-2", "1")), ge("1", "-1"), false},
	} {
		ok, e := Implied(c.l, c.f)
		want(t, "Implied of "+short(c.f)+" by "+short(c.l), ok, c.ok, e, api.OK)
	}
	random := rand.New(rand.NewSource(2))
	count := 0
	for range 3000 {
		_, l := randomProgram(random)
		if len(l) == 0 {
			continue
		}
		f, rest := l[len(l)-1], l[:len(l)-1]
		wanted := implied(rest, f)
		ok, e := Implied(rest, f)
		want(t, "Implied of "+short(f)+" by "+short(rest), ok, wanted, e, api.OK)
		if ok {
			count++
		}
	}
	if count < 300 || count > 2700 {
		t.Errorf("%d constraints are implied", count)
	}
}

func TestP5_1Essential(t *testing.T) {
	square := list(ge("0", "1", "0"), ge("0", "0", "1"), ge("1", "-1", "0"), ge("1", "0", "-1"))
	for _, c := range []struct {
		l      []api.Fact
		n      int
		result []int
	}{
		{list(ge("0", "1"), ge("1", "1"), ge("0", "1")), 1, []int{0}}, {list(ge("1", "1"), ge("0", "1"), ge("0", "2")), 1, []int{1}}, {nil, 3, nil}, {triangle(), 2, []int{0, 1, 2}}, {append(triangle(), ge("4", "-1", "-1")), 2, []int{0, 1, 2}}, {append(list(ge("4", "-1", "-1")), triangle()...), 2, []int{1, 2, 3}},
		{append(slices.Clone(square), square...), 2, []int{0, 1, 2, 3}}, {append(slices.Clone(square), eq("0", "1", "-1")), 2, []int{0, 2, 4}}, {append(list(eq("0", "1", "-1")), square...), 2, []int{0, 1, 3}},
		{list(eq("-1", "1"), eq("-2", "2"), ge("-1", "1"), ge("1", "-1")), 1, []int{0}}, {list(ge("-1", "1"), ge("1", "-1"), eq("-1", "1")), 1, []int{0, 1}}, {list(ge("-1", "1"), eq("-1", "1"), ge("1", "-1")), 1, []int{1}}, {list(eq("0", "1", "1"), eq("0", "1", "-1"), eq("0", "1", "0"), eq("0", "0", "1")), 2, []int{0, 1}},
		{list(ge("-1", "1"), ge("0", "-1"), ge("-5", "1"), ge("-1", "-1")), 1, []int{0, 1}}, {list(ge("5", "1"), ge("-1", "0"), eq("1", "0")), 1, []int{1}}, {list(eq("0", "1"), eq("-1", "1"), eq("-2", "1")), 1, []int{0, 1}}, {list(ge("-3")), 0, []int{0}}, {list(ge("3"), eq("0")), 0, nil}, {list(ge("-3"), eq("1"), eq("0")), 0, []int{0}},
	} {
		result, e := Essential(c.l, c.n)
		want(t, "Essential of "+short(c.l), fmt.Sprint(result), fmt.Sprint(c.result), e, api.OK)
	}
	random := rand.New(rand.NewSource(3))
	for range 1500 {
		c, l := randomProgram(random)
		result, e := Essential(l, len(c.Coef))
		want(t, "Essential of "+short(l), fmt.Sprint(result), fmt.Sprint(essential(l)), e, api.OK)
	}
}
