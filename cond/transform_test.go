package cond

import (
	"fmt"
	"math/rand"
	"strings"
	"testing"

	"surveyor/api"
	"surveyor/expr"
	"surveyor/fact"
)

// factsText returns the texts of facts over x, y and r.u.
func factsText(l []api.Fact) string {
	var texts []string
	for _, f := range l {
		text, _ := fact.Format(f, names)
		texts = append(texts, text)
	}
	return strings.Join(texts, "; ")
}

// clausesText returns the texts of the lists of a disjunctive normal form, each behind a bar.
func clausesText(l [][]api.Cond) string {
	out := ""
	for _, clause := range l {
		var texts []string
		for _, c := range clause {
			text, _ := Format(c, names)
			texts = append(texts, text)
		}
		out += "|" + strings.Join(texts, "; ")
	}
	return out
}

func TestP13_2Examples(t *testing.T) {
	c := read(t, "not (x < y or x = 3)")
	positive, e := Positive(c, 3)
	want(t, "Positive", positive, read(t, "y <= x and x != 3"), e, api.OK)
	facts, e := Facts(c, 3)
	want(t, "Facts", factsText(facts), "x - y >= 0", e, api.OK)
	clauses, e := Normal(c, 3)
	want(t, "Normal", clausesText(clauses), "|y <= x; x < 3|y <= x; 3 < x", e, api.OK)
	facts, e = Facts(read(t, "2 * x < y + 1 and x * y = 0"), 3)
	want(t, "Facts", factsText(facts), "-2 x + y >= 0", e, api.OK)
}

func TestP13_2Positive(t *testing.T) {
	for _, c := range []struct{ src, positive, negation string }{
		{"true", "true", "false"}, {"false", "false", "true"}, {"x = y", "x = y", "x != y"}, {"x != y", "x != y", "x = y"}, {"x < y", "x < y", "y <= x"}, {"x <= y", "x <= y", "y < x"}, {"x > y", "y < x", "x <= y"}, {"x >= y", "y <= x", "x < y"},
		{"not true", "false", "true"}, {"not x = y", "x != y", "x = y"}, {"not x < y", "y <= x", "x < y"}, {"not not x < y", "x < y", "y <= x"}, {"not not not x <= y", "y < x", "x <= y"},
		{"x = 1 and y = 2", "x = 1 and y = 2", "x != 1 or y != 2"}, {"x = 1 or y = 2", "x = 1 or y = 2", "x != 1 and y != 2"}, {"not (x = 1 and not y = 2)", "x != 1 or y = 2", "x = 1 and y != 2"}, {"not (x < 1 or not (y = 2 and true))", "1 <= x and (y = 2 and true)", "x < 1 or (y != 2 or false)"}, {"(x = 1 and x = 2) and x = 3", "(x = 1 and x = 2) and x = 3", "(x != 1 or x != 2) or x != 3"}, {"x = 1 and (x = 2 and x = 3)", "x = 1 and (x = 2 and x = 3)", "x != 1 or (x != 2 or x != 3)"},
		{"not -x / (y + 1) < x % 2", "x % 2 <= -x / (y + 1)", "-x / (y + 1) < x % 2"},
	} {
		positive, e := Positive(read(t, c.src), 3)
		want(t, "Positive of "+c.src, positive, read(t, c.positive), e, api.OK)
		negation, e := Negate(read(t, c.src), 3)
		want(t, "Negate of "+c.src, negation, read(t, c.negation), e, api.OK)
	}
	r := rand.New(rand.NewSource(5))
	for range 10000 {
		c := randomFormed(r, 3)
		positive, e := Positive(c, 3)
		want(t, fmt.Sprintf("Positive of %+v", c), positive, referencePositive(c), e, api.OK)
		negation, e := Negate(c, 3)
		want(t, fmt.Sprintf("Negate of %+v", c), negation, referenceNegate(c), e, api.OK)
	}
	positive, e := Positive(deep(16), 0)
	want(t, "Positive", positive, no, e, api.OK)
	positive, e = Negate(wide(63), 12)
	want(t, "Negate", positive, referenceNegate(wide(63)), e, api.OK)
}

func TestP13_2Facts(t *testing.T) {
	tens := "1" + strings.Repeat("0", 99) // has 100 digits
	big := string(nines)
	for _, c := range []struct{ src, facts string }{
		{"true", ""}, {"false", "-1 >= 0"}, {"not false", ""}, {"x = 0 and false", "-1 >= 0"}, {"x = 0 or false", ""}, {"not (x = 0 or true)", "-1 >= 0"},
		{"x = y", "x - y = 0"}, {"y = x", "x - y = 0"}, {"x = 3", "x - 3 = 0"}, {"3 = x", "x - 3 = 0"}, {"2 * x = 4 * y + 6", "x - 2 y - 3 = 0"}, {"2 * x = 1", "-1 >= 0"}, {"x != y", ""}, {"not x != y", "x - y = 0"}, {"not x = y", ""},
		{"x < y", "-x + y - 1 >= 0"}, {"x <= y", "-x + y >= 0"}, {"x > y", "x - y - 1 >= 0"}, {"x >= y", "x - y >= 0"}, {"not x < y", "x - y >= 0"}, {"not x <= y", "x - y - 1 >= 0"}, {"2 * x < 5", "-x + 2 >= 0"}, {"2 * x <= 5", "-x + 2 >= 0"}, {"2 * x < 4", "-x + 1 >= 0"}, {"x < x + 1", ""}, {"x < x", "-1 >= 0"}, {"1 <= 2", ""}, {"2 <= 1", "-1 >= 0"}, {"1 = 1", ""}, {"1 = 2", "-1 >= 0"},
		// The conjunction is in order, without repetitions.
		{"x <= 5 and 0 <= x and x <= 5", "-x + 5 >= 0; x >= 0"}, {"x = 1 and (y = 2 and r.u >= 3)", "r.u - 3 >= 0; y - 2 = 0; x - 1 = 0"}, {"not (x = 1 or (y != 2 or r.u < 3))", "r.u - 3 >= 0; y - 2 = 0"}, {"x <= 5 and x <= 7", "-x + 5 >= 0; -x + 7 >= 0"},
		// Nothing below a CondOr counts.
		{"x = 1 or y = 2", ""}, {"x = 1 or x = 1", ""}, {"(x = 1 or y = 2) and y = 3", "y - 3 = 0"}, {"y = 3 and (x = 1 or y = 2 and x = 5)", "y - 3 = 0"}, {"not (x = 1 and y != 2)", ""}, {"x = 2 and (false or y = 3)", "x - 2 = 0"},
		// Expressions without a linear form.
		{"x * y = 0", ""}, {"x / 2 = 1", ""}, {"x % 2 = 1", ""}, {"1 <= x * x", ""}, {"7 / 2 = x", "x - 3 = 0"}, {"1 / 0 = x", ""}, {"x * y = 0 and x = 5", "x - 5 = 0"}, {"x * y = x * y", ""}, {"2 * (x - 3) + y < -x", "-3 x - y + 5 >= 0"}, {"(x - x) * y = r.u", "r.u = 0"},
		// Numbers with more than 100 digits: only those of the fact count, before it is normal.
		{"x <= " + big, "-x + " + big + " >= 0"}, {"-" + big + " <= x", "x + " + big + " >= 0"}, {big + " * x <= -" + big + " * y", "-x - y >= 0"}, {big + " * x <= y - x", ""}, {big + " * x <= y + x", "-" + big[1:] + "8 x + y >= 0"}, {"x + 1 <= -" + big, ""}, {"x < -" + big, ""}, {"x < -" + big[1:] + "8", "-x - " + big + " >= 0"}, {"x <= -" + big, "-x - " + big + " >= 0"},
		{"x - " + big + " < 1", "-x + " + big + " >= 0"}, {"x - " + big + " <= 1", ""}, {"x - 1 < " + big, "-x + " + big + " >= 0"}, {"x - 2 < " + big, ""}, {"x + 2 = -" + big, ""}, {"x + 2 = " + big, "x - " + big[1:] + "7 = 0"}, {"9 * " + tens + " * x = -" + tens + " * x", ""}, {"9 * " + tens + " * x = " + tens + " * x", "x = 0"}, {"x + " + big + " = y - 1", ""}, {"y = 5 and x - " + big + " <= 1", "y - 5 = 0"}, {"not (x - " + big + " > 1 or y != 5)", "y - 5 = 0"},
	} {
		facts, e := Facts(read(t, c.src), 3)
		want(t, "Facts of "+c.src, factsText(facts), c.facts, e, api.OK)
	}
	for n := range 13 {
		facts, e := Facts(no, n)
		want(t, "Facts of false", facts, []api.Fact{{Coef: zeros(n), Const: "-1", Mod: "0"}}, e, api.OK)
		facts, e = Facts(comparison(api.CondLe, num("2"), num("1")), n)
		want(t, "Facts of 2 <= 1", facts, []api.Fact{{Coef: zeros(n), Const: "-1", Mod: "0"}}, e, api.OK)
	}
	r := rand.New(rand.NewSource(6))
	count := 0
	for range 20000 {
		n := 1 + r.Intn(3)
		c := randomFormed(r, n)
		facts, e := Facts(c, n)
		want(t, fmt.Sprintf("Facts of %+v", c), facts, referenceFacts(t, c, n), e, api.OK)
		if len(facts) > 1 {
			count++
		}
	}
	if count < 300 {
		t.Errorf("only %d conditions have several facts", count)
	}
}

// disjunction returns a condition with so many lists, each of a comparison.
func disjunction(n int) api.Cond {
	if n == 1 {
		return less01
	}
	return connection(api.CondOr, disjunction(n/2), disjunction(n-n/2))
}

// conjunction returns a CondAnd of conditions.
func conjunction(list ...api.Cond) api.Cond {
	c := list[0]
	for _, d := range list[1:] {
		c = connection(api.CondAnd, c, d)
	}
	return c
}

// connected returns a condition of many short comparisons.
func connected(r *rand.Rand, depth int) api.Cond {
	if depth == 1 || r.Intn(10) == 0 {
		if r.Intn(8) == 0 {
			return api.Cond{Op: r.Intn(2)}
		}
		return comparison([]int{api.CondEq, api.CondNe, api.CondNe, api.CondLt, api.CondLe}[r.Intn(5)], variable(r.Intn(3)), variable(r.Intn(3)))
	}
	if r.Intn(12) == 0 {
		return connection(api.CondNot, connected(r, depth-1))
	}
	return connection(api.CondAnd+r.Intn(2), connected(r, depth-1), connected(r, depth-1))
}

func TestP13_2Normal(t *testing.T) {
	for _, c := range []struct{ src, lists string }{
		{"true", "|"}, {"false", ""}, {"x = y", "|x = y"}, {"x < y", "|x < y"}, {"x <= y", "|x <= y"}, {"x != y", "|x < y|y < x"}, {"not x = y", "|x < y|y < x"}, {"not x < y", "|y <= x"}, {"not x != y", "|x = y"},
		{"x = 1 or x = 2", "|x = 1|x = 2"}, {"x = 1 and x = 2", "|x = 1; x = 2"}, {"x = 1 and x = 1", "|x = 1; x = 1"}, {"x = 1 or x = 1", "|x = 1|x = 1"}, {"true or x = 1", "||x = 1"}, {"x = 1 or true", "|x = 1|"}, {"true or true", "||"}, {"false or x = 1", "|x = 1"}, {"true and x = 1", "|x = 1"}, {"x = 1 and true", "|x = 1"}, {"false and x = 1", ""}, {"x = 1 and (x = 2 and false)", ""}, {"true and true", "|"},
		{"(x = 1 or x = 2) and (x = 3 or x = 4)", "|x = 1; x = 3|x = 1; x = 4|x = 2; x = 3|x = 2; x = 4"}, {"x = 1 and (x = 2 or x = 3) and x = 4", "|x = 1; x = 2; x = 4|x = 1; x = 3; x = 4"}, {"x != 1 and y != 2", "|x < 1; y < 2|x < 1; 2 < y|1 < x; y < 2|1 < x; 2 < y"}, {"x = 1 and x = 2 or x = 3 and x = 4", "|x = 1; x = 2|x = 3; x = 4"}, {"not (x = 1 and y <= 2) or false", "|x < 1|1 < x|2 < y"}, {"x / y != y % x", "|x / y < y % x|y % x < x / y"},
		{"(true or x = 1) and (x = 2 or true)", "|x = 2||x = 1; x = 2|x = 1"},
	} {
		lists, e := Normal(read(t, c.src), 3)
		want(t, "Normal of "+c.src, clausesText(lists), c.lists, e, api.OK)
	}
	ne := comparison(api.CondNe, x, y)
	six := conjunction(ne, ne, ne, ne, ne, ne) // has 64 lists
	four := connection(api.CondOr, ne, ne)
	for i, c := range []struct {
		c     api.Cond
		count int
		e     api.Errno
	}{
		{six, 64, api.OK}, {conjunction(six, ne), 0, api.ErrLimit}, {connection(api.CondOr, six, less01), 0, api.ErrLimit}, {connection(api.CondOr, six, yes), 0, api.ErrLimit}, {connection(api.CondOr, no, six), 64, api.OK}, {conjunction(six, yes), 64, api.OK}, {conjunction(less01, six), 64, api.OK}, {conjunction(six, no), 0, api.OK}, {conjunction(no, six), 0, api.OK},
		// A part with too many lists counts, also where the whole has none.
		{conjunction(connection(api.CondOr, six, less01), no), 0, api.ErrLimit}, {conjunction(no, connection(api.CondOr, six, less01)), 0, api.ErrLimit}, {conjunction(no, conjunction(six, ne)), 0, api.ErrLimit}, {conjunction(six, ne, no), 0, api.ErrLimit}, {conjunction(six, no, ne), 0, api.OK}, {conjunction(no, six, ne), 0, api.OK}, {connection(api.CondNot, connection(api.CondOr, connection(api.CondNot, conjunction(six, ne)), yes)), 0, api.ErrLimit},
		{disjunction(16), 16, api.OK}, {conjunction(four, four, four), 64, api.OK}, {conjunction(four, four, four, ne), 0, api.ErrLimit}, {conjunction(disjunction(3), disjunction(3), disjunction(7)), 63, api.OK}, {conjunction(disjunction(5), disjunction(8), yes), 40, api.OK}, {conjunction(disjunction(5), connection(api.CondOr, disjunction(8), connection(api.CondOr, yes, connection(api.CondOr, yes, connection(api.CondOr, yes, connection(api.CondOr, yes, yes)))))), 0, api.ErrLimit}, {wide(63), 32, api.OK}, {conjunction(wide(21), wide(21)), 0, api.ErrLimit}, {conjunction(wide(15), wide(15)), 64, api.OK}, {conjunction(wide(15), wide(17)), 0, api.ErrLimit}, {conjunction(wide(25), wide(9)), 0, api.ErrLimit}, {conjunction(wide(31), wide(7)), 64, api.OK}, {connection(api.CondOr, conjunction(wide(15), wide(15)), no), 64, api.OK}, {connection(api.CondOr, conjunction(wide(15), wide(15)), yes), 0, api.ErrLimit}, {connection(api.CondOr, yes, conjunction(wide(13), wide(17))), 64, api.OK},
		{deep(16), 0, api.OK}, {deep(15), 1, api.OK},
	} {
		lists, e := Normal(c.c, 2)
		want(t, fmt.Sprint("Normal ", i), len(lists), c.count, e, c.e)
	}
	r := rand.New(rand.NewSource(7))
	counts := map[api.Errno]int{}
	for range 10000 {
		c := connected(r, 5)
		if r.Intn(2) == 0 {
			c = randomFormed(r, 3)
		}
		positive := referencePositive(c)
		var wanted [][]api.Cond
		fault := api.OK
		if clauseCount(positive) < 0 {
			fault = api.ErrLimit
		}
		for i := range max(clauseCount(positive), 0) {
			wanted = append(wanted, clause(positive, i))
		}
		lists, e := Normal(c, 3)
		want(t, fmt.Sprintf("Normal of %+v", c), lists, wanted, e, fault)
		counts[fault]++
	}
	if counts[api.ErrLimit] < 100 {
		t.Errorf("only %d conditions have too many lists", counts[api.ErrLimit])
	}
}

func TestP13_2Substitute(t *testing.T) {
	for i, c := range []struct {
		src    string
		n, i   int
		by     api.Expr
		result string
		e      api.Errno
	}{
		{"true", 3, 0, y, "true", api.OK}, {"x = y", 3, 0, num("5"), "5 = y", api.OK}, {"x = y", 2, 1, x, "x = x", api.OK}, {"x = y", 3, 2, x, "x = y", api.OK}, {"x < y", 3, 0, node(api.ExprSub, x, num("1")), "x - 1 < y", api.OK}, {"not (x <= 1 and y != x) or 2 * x = r.u", 3, 0, node(api.ExprAdd, x, y), "not (x + y <= 1 and y != x + y) or 2 * (x + y) = r.u", api.OK}, {"-x / x = 0", 3, 0, node(api.ExprNeg, z), "--r.u / -r.u = 0", api.OK}, {"not not x = 1", 1, 0, num("1"), "not not 1 = 1", api.OK},
		{"x = 1", 1, 1, x, "", api.ErrNone}, {"x = 1", 1, -1, x, "", api.ErrNone}, {"true", 0, 0, num("1"), "", api.ErrNone}, {"x = 1", 1, 5, y, "", api.ErrNone}, {"x = 1", 1, 5, num("x"), "", api.ErrForm}, {"x = 1", 1, 0, num(huge), "", api.ErrLarge}, {"x = 1", 1, 5, wideExpr(65), "", api.ErrMany}, {"x = 1", 1, 5, deepExpr(17), "", api.ErrDeep}, {"x = 1", 1, 5, node(8), "", api.ErrArg}, {"x = 1", 1, 5, node(api.ExprNeg), "", api.ErrShape}, {"x = y", 1, 5, node(8), "", api.ErrNone}, {"x = y", 13, 5, node(8), "", api.ErrRange},
	} {
		result, e := Substitute(read(t, c.src), c.n, c.i, c.by)
		wanted := api.Cond{}
		if c.e == api.OK {
			wanted = read(t, c.result)
		}
		want(t, fmt.Sprint("Substitute ", i), result, wanted, e, c.e)
	}
	// The size of the result: the number of nodes of all expressions, and the depth of each.
	equal := func(a, b api.Expr) api.Cond { return comparison(api.CondEq, a, b) }
	add := func(a, b api.Expr) api.Expr { return node(api.ExprAdd, a, b) }
	for i, c := range []struct {
		c  api.Cond
		by api.Expr
		e  api.Errno
	}{
		{equal(x, num("1")), wideExpr(61), api.OK}, {equal(x, num("1")), node(api.ExprNeg, wideExpr(61)), api.OK}, {equal(x, num("1")), wideExpr(63), api.ErrMany}, {equal(x, x), wideExpr(31), api.OK}, {equal(x, x), wideExpr(33), api.ErrMany}, {equal(x, num("1")), deepExpr(16), api.OK}, {equal(node(api.ExprNeg, x), num("1")), deepExpr(16), api.ErrDeep}, {equal(num("1"), node(api.ExprNeg, x)), deepExpr(15), api.OK}, {equal(add(x, x), add(x, x)), deepExpr(16), api.ErrMany}, {equal(add(x, x), add(x, num("1"))), deepExpr(16), api.ErrDeep}, {connection(api.CondAnd, equal(x, num("1")), equal(num("1"), x)), node(api.ExprNeg, wideExpr(29)), api.ErrMany}, {connection(api.CondAnd, equal(x, num("1")), equal(num("1"), x)), wideExpr(29), api.OK}, {equal(node(api.ExprNeg, num("1")), num("1")), deepExpr(16), api.OK},
	} {
		result, e := Substitute(c.c, 1, 0, c.by)
		want(t, fmt.Sprint("Substitute ", i), e, c.e, 0, 0)
		if e != api.OK {
			want(t, fmt.Sprint("Substitute ", i), result, api.Cond{}, 0, 0)
		}
		result, e = Replace(c.c, []api.Expr{c.by}, 1)
		want(t, fmt.Sprint("Replace ", i), e, c.e, 0, 0)
		if e != api.OK {
			want(t, fmt.Sprint("Replace ", i), result, api.Cond{}, 0, 0)
		}
	}
}

func TestP13_2Replace(t *testing.T) {
	for i, c := range []struct {
		src    string
		by     []api.Expr
		n      int
		result string
		e      api.Errno
	}{
		{"true", nil, 0, "true", api.OK}, {"x < y", []api.Expr{y, x}, 2, "y < x", api.OK}, {"x < y", []api.Expr{y, num("1")}, 2, "y < 1", api.OK}, {"x < y and x = r.u", []api.Expr{node(api.ExprAdd, y, z), node(api.ExprNeg, x), x}, 3, "y + r.u < -x and y + r.u = x", api.OK}, {"x = 0", []api.Expr{z}, 3, "r.u = 0", api.OK}, {"x = 0", []api.Expr{num("7"), z}, 3, "7 = 0", api.OK}, {"not (x <= 3 or 2 * x != y)", []api.Expr{num("-1"), num("2")}, 0, "", api.OK}, {"2 = 3", nil, 12, "2 = 3", api.OK}, {"true", make([]api.Expr, 12), 3, "", api.ErrForm},
		{"x = 0", []api.Expr{x}, 13, "", api.ErrRange}, {"x = 0", []api.Expr{num("x")}, -1, "", api.ErrRange}, {"x = 0", nil, -1, "", api.ErrNone}, {"x = 0", make([]api.Expr, 13), -1, "", api.ErrRange}, {"x = 0", []api.Expr{x}, 0, "", api.ErrNone}, {"x = 0", []api.Expr{x, y}, 1, "", api.ErrNone}, {"x = 0", []api.Expr{node(8), num("x")}, 1, "", api.ErrArg}, {"x = 0", []api.Expr{num("x"), node(8)}, 1, "", api.ErrForm}, {"x = 0", []api.Expr{num(huge)}, 1, "", api.ErrLarge}, {"x = 0", []api.Expr{num("1"), deepExpr(17)}, 1, "", api.ErrDeep}, {"x = 0", []api.Expr{wideExpr(65)}, 1, "", api.ErrMany}, {"x = 0", []api.Expr{node(api.ExprNeg)}, 1, "", api.ErrShape}, {"x = y", []api.Expr{wideExpr(31), wideExpr(33)}, 1, "", api.ErrMany}, {"x = y", []api.Expr{wideExpr(31), wideExpr(31)}, 1, "?", api.OK}, {"-x = y", []api.Expr{deepExpr(16), x}, 1, "", api.ErrDeep},
	} {
		result, e := Replace(read(t, c.src), c.by, c.n)
		wanted := result
		switch {
		case c.e != api.OK:
			wanted = api.Cond{}
		case i == 6:
			wanted = connection(api.CondNot, connection(api.CondOr, comparison(api.CondLe, num("-1"), num("3")), comparison(api.CondNe, node(api.ExprMul, num("2"), num("-1")), num("2"))))
		case c.result != "?":
			wanted = read(t, c.result)
		}
		want(t, fmt.Sprint("Replace ", i), result, wanted, e, c.e)
	}
}

func TestP13_2Format(t *testing.T) {
	for _, c := range []struct{ src, text string }{
		{"true", "true"}, {"false", "false"}, {"x=y", "x = y"}, {"x!=y", "x != y"}, {"x<y", "x < y"}, {"x<=y", "x <= y"}, {"x>y", "y < x"}, {"x>=r.u", "r.u <= x"}, {"-x+1<(y-1)*2", "-x + 1 < (y - 1) * 2"},
		{"not true", "not true"}, {"not x=y", "not x = y"}, {"not not x<y", "not not x < y"}, {"not(x=1 and y=2)", "not (x = 1 and y = 2)"}, {"not(x=1 or y=2)", "not (x = 1 or y = 2)"}, {"(not x=1)and y=2", "not x = 1 and y = 2"}, {"x=1 and not y=2", "x = 1 and not y = 2"}, {"x=1 or not y=2", "x = 1 or not y = 2"}, {"not(not(x=1 or y=2))", "not not (x = 1 or y = 2)"},
		{"x=1 and y=2 and x=3", "x = 1 and y = 2 and x = 3"}, {"x=1 and (y=2 and x=3)", "x = 1 and (y = 2 and x = 3)"}, {"x=1 or y=2 or x=3", "x = 1 or y = 2 or x = 3"}, {"x=1 or (y=2 or x=3)", "x = 1 or (y = 2 or x = 3)"}, {"x=1 and y=2 or x=3", "x = 1 and y = 2 or x = 3"}, {"x=1 and (y=2 or x=3)", "x = 1 and (y = 2 or x = 3)"}, {"(x=1 or y=2) and x=3", "(x = 1 or y = 2) and x = 3"}, {"x=1 or (y=2 and x=3)", "x = 1 or y = 2 and x = 3"}, {"(x=1 or y=2) or (x=3 or x=4) and x=5", "x = 1 or y = 2 or (x = 3 or x = 4) and x = 5"}, {"(x=1 or y=2) and (x=3 and x=4)", "(x = 1 or y = 2) and (x = 3 and x = 4)"}, {"not (x=1 and y=2) and (not (true or false) and true)", "not (x = 1 and y = 2) and (not (true or false) and true)"},
	} {
		text, e := Format(read(t, c.src), names)
		want(t, "Format of "+c.src, text, c.text, e, api.OK)
	}
	// Names need not be names.
	text, e := Format(comparison(api.CondLe, x, node(api.ExprMul, y, num("-1"))), []string{"", "a + b"})
	want(t, "Format", text, " <= a + b * -1", e, api.OK)
	text, e = Format(yes, make([]string, 12))
	want(t, "Format", text, "true", e, api.OK)
	r := rand.New(rand.NewSource(8))
	for range 5000 {
		c := randomFormed(r, 3)
		text, e := Format(c, names)
		want(t, fmt.Sprintf("Format of %+v", c), text, referenceFormat(c), e, api.OK)
	}
}

// unsignedExpr and unsigned return trees without negative numbers, as they are read.
func unsignedExpr(e api.Expr) api.Expr {
	if strings.HasPrefix(string(e.Num), "-") {
		return node(api.ExprNeg, num(e.Num[1:]))
	}
	e = copiedExpr(e)
	for i := range e.Args {
		e.Args[i] = unsignedExpr(e.Args[i])
	}
	return e
}

func unsigned(c api.Cond) api.Cond {
	c = copied(c)
	for i := range c.Exprs {
		c.Exprs[i] = unsignedExpr(c.Exprs[i])
	}
	for i := range c.Args {
		c.Args[i] = unsigned(c.Args[i])
	}
	return c
}

// TestP13_3Format reads texts.
func TestP13_3Format(t *testing.T) {
	r := rand.New(rand.NewSource(9))
	for range 5000 {
		c := randomFormed(r, 3)
		wanted := unsigned(c)
		if Check(wanted, 3) != api.OK {
			continue
		}
		text, e := Format(c, names)
		want(t, text, read(t, text), wanted, e, api.OK)
	}
}

// TestP13_3Truths has truths of normal forms, of facts, and of replaced conditions.
func TestP13_3Truths(t *testing.T) {
	r := rand.New(rand.NewSource(10))
	counts := map[bool]int{}
	for range 20000 {
		c, values := randomFormed(r, 3), randomValues(r, 3)
		holds, e := Eval(c, values)
		if e != api.OK {
			continue
		}
		counts[holds]++
		what := fmt.Sprintf("%+v with %v", c, values)
		positive, _ := Positive(c, 3)
		got, e := Eval(positive, values)
		want(t, "Positive of "+what, got, holds, e, api.OK)
		negation, _ := Negate(c, 3)
		got, e = Eval(negation, values)
		want(t, "Negate of "+what, got, !holds, e, api.OK)
		if lists, e := Normal(c, 3); e == api.OK {
			want(t, "Normal of "+what, isOneTrue(t, lists, values), holds, 0, 0)
		}
		if holds {
			facts, _ := Facts(c, 3)
			got, e = fact.All(facts, values)
			want(t, "Facts of "+what, got, true, e, api.OK)
		}
	}
	if min(counts[true], counts[false]) < 1000 {
		t.Errorf("truths: %v", counts)
	}
}

// isOneTrue reports whether one of the lists is true throughout.
func isOneTrue(t *testing.T, lists [][]api.Cond, values []api.Int) bool {
	for _, list := range lists {
		count := 0
		for _, c := range list {
			holds, e := Eval(c, values)
			if e != api.OK {
				t.Errorf("%+v has no truth", c)
			}
			if c.Op != api.CondEq && c.Op != api.CondLt && c.Op != api.CondLe {
				t.Errorf("%+v is in a disjunctive normal form", c)
			}
			if holds {
				count++
			}
		}
		if count == len(list) {
			return true
		}
	}
	return false
}

// TestP13_3Divisors has values of divisors.
func TestP13_3Divisors(t *testing.T) {
	r := rand.New(rand.NewSource(11))
	counts := map[bool]int{}
	for range 20000 {
		c, values := randomFormed(r, 2), randomValues(r, 2)
		divisors, _ := Divisors(c, 2)
		isZero := false
		for _, d := range divisors {
			v, e := expr.Eval(d, values)
			isZero = isZero || v == "0" || e == api.ErrZero
		}
		_, e := Eval(c, values)
		counts[e == api.ErrZero]++
		if e == api.ErrZero && !isZero || e == api.OK && isZero {
			t.Errorf("%+v with %v: the error %d, and a divisor that is zero: %t", c, values, e, isZero)
		}
	}
	if min(counts[true], counts[false]) < 1000 {
		t.Errorf("truths and divisions by zero: %v", counts)
	}
}

// TestP13_3Replace has truths behind substitutions.
func TestP13_3Replace(t *testing.T) {
	r := rand.New(rand.NewSource(12))
	for range 20000 {
		c, values := randomFormed(r, 3), randomValues(r, 3)
		by := []api.Expr{randomExpr(r, 3, 3), randomExpr(r, 3, 2), randomExpr(r, 3, 2)}
		var replaced []api.Int
		for _, e := range by {
			v, _ := expr.Eval(e, values)
			replaced = append(replaced, v)
		}
		if result, e := Replace(c, by, 3); e == api.OK && replaced[0] != "" && replaced[1] != "" && replaced[2] != "" {
			got, e1 := Eval(result, values)
			wanted, e2 := Eval(c, replaced)
			want(t, fmt.Sprintf("Replace of %+v", c), got, wanted, e1, e2)
		}
		i := r.Intn(3)
		if result, e := Substitute(c, 3, i, by[i]); e == api.OK && replaced[i] != "" {
			one := append([]api.Int{}, values...)
			one[i] = replaced[i]
			got, e1 := Eval(result, values)
			wanted, e2 := Eval(c, one)
			want(t, fmt.Sprintf("Substitute of %+v", c), got, wanted, e1, e2)
		}
	}
}

// TestMemory changes arguments and results behind calls (P1).
func TestMemory(t *testing.T) {
	c := func() api.Cond {
		return read(t, "not (x + 1 != 2 * x or not y / (x - 1) <= r.u % y) and (x != y + 1 or not (x < 1 and x != 2)) and -x != x")
	}
	by := func() []api.Expr { return []api.Expr{node(api.ExprAdd, num("5"), y), node(api.ExprNeg, x), z} }
	for i, function := range []func(c api.Cond, by []api.Expr) any{
		func(c api.Cond, _ []api.Expr) any { d, _ := Positive(c, 3); return d },
		func(c api.Cond, _ []api.Expr) any { d, _ := Negate(c, 3); return d },
		func(c api.Cond, _ []api.Expr) any { l, _ := Normal(c, 3); return l },
		func(c api.Cond, _ []api.Expr) any { l, _ := Divisors(c, 3); return l },
		func(c api.Cond, by []api.Expr) any { d, _ := Substitute(c, 3, 0, by[0]); return d },
		func(c api.Cond, by []api.Expr) any { d, _ := Substitute(c, 3, 0, num("1")); return d },
		func(c api.Cond, by []api.Expr) any { d, _ := Replace(c, by, 3); return d },
		func(c api.Cond, by []api.Expr) any { l, _ := Facts(c, 3); return l },
	} {
		a, b := c(), by()
		result := function(a, b)
		before := fmt.Sprintf("%+v", result)
		want(t, fmt.Sprint("arguments ", i), fmt.Sprintf("%+v %+v", a, b), fmt.Sprintf("%+v %+v", c(), by()), 0, 0)
		spoil(a)
		for _, e := range b {
			spoilExpr(e)
		}
		want(t, fmt.Sprint("results ", i), fmt.Sprintf("%+v", result), before, 0, 0)
		if before == "[]" || before == fmt.Sprintf("%+v", api.Cond{}) {
			t.Errorf("result %d is empty", i)
		}
		checkShared(t, fmt.Sprint("result ", i), result)
	}
}

// spoil and spoilExpr change all memory.
func spoil(c api.Cond) {
	for i, e := range c.Exprs {
		spoilExpr(e)
		c.Exprs[i] = api.Expr{Op: 99, Num: "spoilt", Var: 99}
	}
	for i, a := range c.Args {
		spoil(a)
		c.Args[i] = api.Cond{Op: 99}
	}
}

func spoilExpr(e api.Expr) {
	for i, a := range e.Args {
		spoilExpr(a)
		e.Args[i] = api.Expr{Op: 99, Num: "spoilt", Var: 99}
	}
}

// checkShared checks that no two lists of a result share memory.
func checkShared(t *testing.T, what string, result any) {
	seen := map[any]bool{}
	check := func(first any) {
		if seen[first] {
			t.Errorf("%s shares memory", what)
		}
		seen[first] = true
	}
	var visitExprs func(l []api.Expr)
	visitExprs = func(l []api.Expr) {
		if len(l) > 0 {
			check(&l[0])
		}
		for _, e := range l {
			visitExprs(e.Args)
		}
	}
	var visitConds func(l []api.Cond)
	visitConds = func(l []api.Cond) {
		if len(l) > 0 {
			check(&l[0])
		}
		for _, c := range l {
			visitExprs(c.Exprs)
			visitConds(c.Args)
		}
	}
	switch r := result.(type) {
	case api.Cond:
		visitConds([]api.Cond{r})
	case [][]api.Cond:
		for _, l := range r {
			visitConds(l)
		}
	case []api.Expr:
		visitExprs(r)
	}
}
