package expr

import (
	"fmt"
	"math/rand"
	"strings"
	"testing"

	"surveyor/api"
	"surveyor/linear"
	"surveyor/parser"
)

func TestP12_2Examples(t *testing.T) {
	l, ok, fault := Linear(node(api.ExprAdd, node(api.ExprMul, num("2"), node(api.ExprSub, x, num("3"))), y), 2)
	want(t, "Linear", fmt.Sprint(l, ok), "{[2 1] -6} true", fault, api.OK)
	for _, e := range []api.Expr{node(api.ExprMul, x, y), node(api.ExprDiv, x, num("2"))} {
		l, ok, fault = Linear(e, 2)
		want(t, "Linear", fmt.Sprint(l, ok), "{[] } false", fault, api.OK)
	}
	half := node(api.ExprDiv, num("4"), num("2"))
	e := node(api.ExprMod, node(api.ExprDiv, x, y), half)
	list, fault := Divisors(e, 2)
	want(t, "Divisors", list, []api.Expr{y, half}, fault, api.OK)
	folded, fault := Fold(e, 2)
	want(t, "Fold", folded, node(api.ExprMod, node(api.ExprDiv, x, y), num("2")), fault, api.OK)
	names := []string{"x", "y"}
	text, fault := Format(node(api.ExprSub, x, node(api.ExprSub, y, num("-1"))), names)
	want(t, "Format", text, "x - (y - -1)", fault, api.OK)
	text, fault = Format(node(api.ExprMul, node(api.ExprNeg, x), node(api.ExprAdd, y, num("2"))), names)
	want(t, "Format", text, "-x * (y + 2)", fault, api.OK)
}

func TestP12_2Fold(t *testing.T) {
	add := func(a, b api.Expr) api.Expr { return node(api.ExprAdd, a, b) }
	one, two, none := num("1"), num("2"), num("0")
	for i, c := range []struct{ e, folded api.Expr }{
		{one, one}, {x, x}, {node(api.ExprNeg, one), num("-1")}, {node(api.ExprNeg, num("-1")), one}, {node(api.ExprNeg, none), none}, {node(api.ExprNeg, x), node(api.ExprNeg, x)}, {add(one, two), num("3")}, {node(api.ExprSub, one, two), num("-1")}, {node(api.ExprMul, two, num("-3")), num("-6")}, {node(api.ExprDiv, num("-7"), two), num("-4")}, {node(api.ExprMod, num("7"), num("-2")), num("-1")},
		{add(add(one, two), add(two, two)), num("7")}, {add(x, add(one, two)), add(x, num("3"))}, {add(add(one, two), x), add(num("3"), x)}, {add(add(x, one), two), add(add(x, one), two)}, {node(api.ExprMul, none, x), node(api.ExprMul, none, x)}, {node(api.ExprNeg, node(api.ExprNeg, x)), node(api.ExprNeg, node(api.ExprNeg, x))}, {node(api.ExprSub, x, x), node(api.ExprSub, x, x)},
		{node(api.ExprDiv, one, none), node(api.ExprDiv, one, none)}, {node(api.ExprMod, add(one, one), node(api.ExprSub, one, one)), node(api.ExprMod, two, none)}, {add(node(api.ExprDiv, one, none), add(one, one)), add(node(api.ExprDiv, one, none), two)},
		{add(num(nines), one), add(num(nines), one)}, {node(api.ExprSub, add(num(nines), one), add(one, one)), node(api.ExprSub, add(num(nines), one), two)}, {add(num(nines), add(one, num("-1"))), num(nines)}, {node(api.ExprMul, num(nines), node(api.ExprNeg, one)), num("-" + nines)},
	} {
		folded, fault := Fold(c.e, 1)
		want(t, fmt.Sprint("Fold ", i), folded, c.folded, fault, api.OK)
	}
	r := rand.New(rand.NewSource(4))
	for range 10000 {
		e := randomFormed(r, 2)
		folded, fault := Fold(e, 2)
		want(t, fmt.Sprintf("Fold of %+v", e), folded, referenceFold(e), fault, api.OK)
	}
}

func TestP12_2Linear(t *testing.T) {
	add := func(a, b api.Expr) api.Expr { return node(api.ExprAdd, a, b) }
	sub := func(a, b api.Expr) api.Expr { return node(api.ExprSub, a, b) }
	mul := func(a, b api.Expr) api.Expr { return node(api.ExprMul, a, b) }
	div := func(a, b api.Expr) api.Expr { return node(api.ExprDiv, a, b) }
	half := num(api.Int("1" + strings.Repeat("0", 50)))
	for i, c := range []struct {
		e    api.Expr
		text string
	}{
		{num("-5"), "{[0 0] -5} true"}, {x, "{[1 0] 0} true"}, {y, "{[0 1] 0} true"}, {node(api.ExprNeg, y), "{[0 -1] 0} true"}, {add(x, num("1")), "{[1 0] 1} true"}, {sub(x, y), "{[1 -1] 0} true"}, {sub(num("1"), add(x, num("3"))), "{[-1 0] -2} true"}, {mul(num("2"), x), "{[2 0] 0} true"}, {mul(x, num("-3")), "{[-3 0] 0} true"}, {mul(add(x, num("1")), node(api.ExprNeg, num("2"))), "{[-2 0] -2} true"}, {mul(num("0"), x), "{[0 0] 0} true"},
		{mul(x, x), "{[] } false"}, {mul(sub(x, x), y), "{[0 0] 0} true"}, {mul(y, add(sub(x, x), num("2"))), "{[0 2] 0} true"}, {mul(mul(num("0"), x), mul(num("0"), y)), "{[0 0] 0} true"}, {add(mul(x, y), num("1")), "{[] } false"}, {mul(num("0"), mul(x, y)), "{[] } false"}, {sub(mul(x, y), mul(x, y)), "{[] } false"},
		{div(num("7"), num("2")), "{[0 0] 3} true"}, {node(api.ExprMod, num("7"), num("2")), "{[0 0] 1} true"}, {div(x, num("1")), "{[] } false"}, {node(api.ExprMod, x, num("1")), "{[] } false"}, {div(num("1"), num("0")), "{[] } false"}, {mul(num("0"), div(num("1"), num("0"))), "{[] } false"}, {div(num("0"), x), "{[] } false"}, {mul(x, div(num("7"), num("2"))), "{[3 0] 0} true"}, {div(sub(x, x), num("2")), "{[] } false"},
		{add(num(nines), num("1")), "{[] } false"}, {sub(add(x, num(nines)), num("-1")), "{[] } false"}, {sub(add(add(x, num(nines)), num("1")), num("1")), "{[] } false"}, {mul(half, mul(half, x)), "{[] } false"}, {mul(num(nines), x), "{[" + string(nines) + " 0] 0} true"}, {mul(num("0"), mul(half, mul(half, x))), "{[] } false"}, {mul(half, half), "{[] } false"}, {sub(mul(num(nines), x), mul(num("-1"), x)), "{[] } false"}, {node(api.ExprNeg, mul(num(nines), x)), "{[-" + string(nines) + " 0] 0} true"},
	} {
		l, ok, fault := Linear(c.e, 2)
		want(t, fmt.Sprint("Linear ", i), fmt.Sprint(l, ok), c.text, fault, api.OK)
	}
	for n, text := range map[int]string{0: "{[] 7} true", 1: "{[0] 7} true", 12: "{[0 0 0 0 0 0 0 0 0 0 0 0] 7} true"} {
		l, ok, fault := Linear(num("7"), n)
		want(t, "Linear of 7", fmt.Sprint(l, ok), text, fault, api.OK)
	}
	r := rand.New(rand.NewSource(5))
	count := 0
	for range 20000 {
		n := 1 + r.Intn(3)
		e := randomFormed(r, n)
		l, ok, fault := Linear(e, n)
		wanted := referenceLinear(referenceFold(e), n)
		want(t, fmt.Sprintf("Linear of %+v", e), fmt.Sprint(l, ok), fmt.Sprint(linearOf(wanted), wanted != nil), fault, api.OK)
		if ok {
			count++
		}
	}
	if count < 1000 {
		t.Errorf("only %d linear forms", count)
	}
}

func TestP12_2Divisors(t *testing.T) {
	div := func(a, b api.Expr) api.Expr { return node(api.ExprDiv, a, b) }
	mod := func(a, b api.Expr) api.Expr { return node(api.ExprMod, a, b) }
	one, none := num("1"), num("0")
	for i, c := range []struct {
		e    api.Expr
		list []api.Expr
	}{
		{x, nil}, {node(api.ExprMul, x, y), nil}, {div(x, y), []api.Expr{y}}, {mod(x, y), []api.Expr{y}}, {div(x, one), nil}, {mod(x, num("-3")), nil}, {div(x, none), []api.Expr{none}}, {mod(none, none), []api.Expr{none}}, {div(x, node(api.ExprNeg, one)), []api.Expr{node(api.ExprNeg, one)}}, {div(one, x), []api.Expr{x}},
		{div(div(x, y), x), []api.Expr{y, x}}, {div(x, mod(y, x)), []api.Expr{x, mod(y, x)}}, {node(api.ExprAdd, div(x, y), mod(y, x)), []api.Expr{y, x}}, {div(div(x, y), div(y, x)), []api.Expr{y, x, div(y, x)}}, {node(api.ExprAdd, div(x, y), div(x, y)), []api.Expr{y, y}}, {node(api.ExprNeg, mod(div(x, none), div(one, one))), []api.Expr{none, div(one, one)}},
	} {
		list, fault := Divisors(c.e, 2)
		want(t, fmt.Sprint("Divisors ", i), list, c.list, fault, api.OK)
	}
}

func TestP12_2Substitute(t *testing.T) {
	add := func(a, b api.Expr) api.Expr { return node(api.ExprAdd, a, b) }
	for i, c := range []struct {
		e      api.Expr
		n, i   int
		by     api.Expr
		result api.Expr
		fault  api.Errno
	}{
		{x, 1, 0, num("5"), num("5"), api.OK}, {x, 2, 1, num("5"), x, api.OK}, {x, 1, 0, add(x, x), add(x, x), api.OK}, {add(x, y), 2, 0, y, add(y, y), api.OK}, {add(x, y), 2, 1, node(api.ExprNeg, y), add(x, node(api.ExprNeg, y)), api.OK}, {add(x, node(api.ExprMul, x, num("0"))), 2, 0, add(y, x), add(add(y, x), node(api.ExprMul, add(y, x), num("0"))), api.OK}, {num("0"), 1, 0, x, num("0"), api.OK},
		{x, 1, 1, num("5"), zero, api.ErrNone}, {x, 1, -1, num("5"), zero, api.ErrNone}, {num("1"), 0, 0, num("5"), zero, api.ErrNone}, {x, 1, 1, y, zero, api.ErrNone}, {x, 1, 5, num("x"), zero, api.ErrForm}, {x, 1, 0, y, zero, api.ErrNone}, {x, 1, 5, wide(65), zero, api.ErrMany}, {x, 1, 5, deep(17), zero, api.ErrDeep}, {x, 1, 5, node(8), zero, api.ErrArg}, {y, 1, 5, node(8), zero, api.ErrNone}, {x, 13, 5, node(8), zero, api.ErrRange},
		{node(api.ExprNeg, x), 1, 0, wide(63), node(api.ExprNeg, wide(63)), api.OK}, {add(x, x), 1, 0, wide(63), zero, api.ErrMany}, {add(x, x), 1, 0, wide(31), add(wide(31), wide(31)), api.OK}, {add(x, x), 1, 0, node(api.ExprNeg, wide(31)), zero, api.ErrMany}, {node(api.ExprNeg, x), 1, 0, deep(15), node(api.ExprNeg, deep(15)), api.OK}, {node(api.ExprNeg, x), 1, 0, deep(16), zero, api.ErrDeep}, {add(node(api.ExprNeg, x), num("0")), 1, 0, deep(15), zero, api.ErrDeep}, {node(api.ExprNeg, wide(31)), 1, 0, deep(16), zero, api.ErrMany}, {wide(63), 1, 0, wide(63), zero, api.ErrMany},
	} {
		result, fault := Substitute(c.e, c.n, c.i, c.by)
		want(t, fmt.Sprint("Substitute ", i), result, c.result, fault, c.fault)
	}
}

func TestP12_2Rename(t *testing.T) {
	e := node(api.ExprSub, node(api.ExprMul, x, y), x)
	for i, c := range []struct {
		e      api.Expr
		to     []int
		n      int
		result api.Expr
		fault  api.Errno
	}{
		{e, []int{1, 0}, 2, node(api.ExprSub, node(api.ExprMul, y, x), y), api.OK}, {e, []int{0, 0}, 1, node(api.ExprSub, node(api.ExprMul, x, x), x), api.OK}, {e, []int{11, 5}, 12, node(api.ExprSub, node(api.ExprMul, variable(11), variable(5)), variable(11)), api.OK}, {e, []int{1, 0, 9, -1}, 2, node(api.ExprSub, node(api.ExprMul, y, x), y), api.OK}, {num("5"), nil, 0, num("5"), api.OK}, {num("5"), []int{7}, 0, num("5"), api.OK}, {x, []int{0, 99}, 1, x, api.OK},
		{e, []int{1, 2}, 2, zero, api.ErrNone}, {e, []int{2, 1}, 2, zero, api.ErrNone}, {e, []int{-1, 1}, 2, zero, api.ErrNone}, {e, []int{0, 0}, 0, zero, api.ErrNone}, {e, []int{0, 0}, 13, zero, api.ErrRange}, {e, []int{0, 0}, -1, zero, api.ErrRange}, {e, []int{-1, -1}, -1, zero, api.ErrRange}, {e, []int{0}, -1, zero, api.ErrNone}, {e, make([]int, 13), 2, zero, api.ErrRange}, {e, make([]int, 12), 12, node(api.ExprSub, node(api.ExprMul, x, x), x), api.OK}, {num("x"), nil, -1, zero, api.ErrForm},
	} {
		result, fault := Rename(c.e, c.to, c.n)
		want(t, fmt.Sprint("Rename ", i), result, c.result, fault, c.fault)
	}
}

func TestP12_2Format(t *testing.T) {
	names := []string{"x", "y", "r.u"}
	for _, c := range []struct{ src, text string }{
		{"x", "x"}, {"r.u", "r.u"}, {"10", "10"}, {"-x", "-x"}, {"--x", "--x"}, {"x+y", "x + y"}, {"x-y", "x - y"}, {"x*y", "x * y"}, {"x/y", "x / y"}, {"x%y", "x % y"},
		{"(x+y)+1", "x + y + 1"}, {"x+(y+1)", "x + (y + 1)"}, {"x+(y-1)", "x + (y - 1)"}, {"x-(y+1)", "x - (y + 1)"}, {"(x-y)-1", "x - y - 1"}, {"x-(y-1)", "x - (y - 1)"}, {"x+y*1", "x + y * 1"}, {"x*y+1", "x * y + 1"}, {"x%y-1/x", "x % y - 1 / x"}, {"(x+y)*1", "(x + y) * 1"}, {"x*(y+1)", "x * (y + 1)"}, {"(x-y)/1", "(x - y) / 1"}, {"x%(y-1)", "x % (y - 1)"}, {"(x*y)*1", "x * y * 1"}, {"x*(y*1)", "x * (y * 1)"}, {"x/(y*1)", "x / (y * 1)"}, {"(x/y)%1", "x / y % 1"}, {"x%(y/1)", "x % (y / 1)"}, {"x*(y%1)", "x * (y % 1)"},
		{"-(x+y)", "-(x + y)"}, {"-(x-y)", "-(x - y)"}, {"-(x*y)", "-(x * y)"}, {"-(x/y)", "-(x / y)"}, {"-(x%y)", "-(x % y)"}, {"(-x)*y", "-x * y"}, {"x*(-y)", "x * -y"}, {"x-(-y)", "x - -y"}, {"(-x)-y", "-x - y"}, {"-(-(x+y))", "--(x + y)"}, {"(-(x+y))*y", "-(x + y) * y"},
	} {
		text, fault := Format(read(t, c.src, names), names)
		want(t, "Format of "+c.src, text, c.text, fault, api.OK)
	}
	minus := num("-12")
	for i, c := range []struct {
		e    api.Expr
		text string
	}{
		{minus, "-12"}, {node(api.ExprNeg, minus), "--12"}, {node(api.ExprSub, minus, minus), "-12 - -12"}, {node(api.ExprMul, minus, minus), "-12 * -12"}, {node(api.ExprMod, x, minus), "x % -12"}, {node(api.ExprMul, minus, node(api.ExprAdd, minus, x)), "-12 * (-12 + x)"}, {num("-" + nines), "-" + string(nines)},
	} {
		text, fault := Format(c.e, names)
		want(t, fmt.Sprint("Format ", i), text, c.text, fault, api.OK)
	}
	// Names need not be names.
	text, fault := Format(node(api.ExprMul, x, y), []string{"", "a + b"})
	want(t, "Format", text, " * a + b", fault, api.OK)
	r := rand.New(rand.NewSource(6))
	for range 5000 {
		e := randomFormed(r, 3)
		text, fault := Format(e, names)
		want(t, fmt.Sprintf("Format of %+v", e), text, referenceFormat(e, names), fault, api.OK)
		// The text has the same tree, with ExprNeg of the magnitude in place of a negative number.
		want(t, text, read(t, text, names), unsigned(e), 0, 0)
		checkParentheses(t, text, e, names)
	}
}

// unsigned returns an expression without negative numbers.
func unsigned(e api.Expr) api.Expr {
	if strings.HasPrefix(string(e.Num), "-") {
		return node(api.ExprNeg, num(e.Num[1:]))
	}
	for i, a := range e.Args {
		if i == 0 {
			e.Args = nil
		}
		e.Args = append(e.Args, unsigned(a))
	}
	return e
}

// checkParentheses checks that no parentheses of a text can be left out.
func checkParentheses(t *testing.T, text string, e api.Expr, names []string) {
	for i := range text {
		if text[i] != '(' {
			continue
		}
		end := i + 1
		for strings.Count(text[i:end], "(") > strings.Count(text[i:end], ")") {
			end++
		}
		less := text[:i] + text[i+1:end-1] + text[end:]
		if isEqual(read(t, less, names), unsigned(e)) {
			t.Errorf("%q could be %q", text, less)
		}
	}
}

// read returns the expression of a text.
func read(t *testing.T, src string, names []string) api.Expr {
	t.Helper()
	tree, at, e := parser.Expr(src)
	if e != api.OK {
		t.Fatalf("%q has no tree: %d, %d", src, at, e)
	}
	return translate(tree, names)
}

func translate(tree api.Syntax, names []string) api.Expr {
	switch tree.Kind {
	case api.NodeNumber:
		return num(api.Int(tree.Text))
	case api.NodePlace:
		name := tree.Text
		for _, field := range tree.Kids {
			name += "." + field.Text
		}
		for i := range names {
			if names[i] == name {
				return variable(i)
			}
		}
	case api.NodeUnary:
		return node(api.ExprNeg, translate(tree.Kids[0], names))
	}
	op := map[string]int{"+": api.ExprAdd, "-": api.ExprSub, "*": api.ExprMul, "/": api.ExprDiv, "%": api.ExprMod}[tree.Text]
	return node(op, translate(tree.Kids[0], names), translate(tree.Kids[1], names))
}

// TestP12_3Fold has values of folded expressions.
func TestP12_3Fold(t *testing.T) {
	r := rand.New(rand.NewSource(7))
	for range 10000 {
		e, values := randomFormed(r, 2), randomValues(r, 2)
		folded, fault := Fold(e, 2)
		want(t, "Check", Check(folded, 2), api.OK, fault, api.OK)
		again, fault := Fold(folded, 2)
		want(t, "Fold", again, folded, fault, api.OK)
		v, fault := Eval(e, values)
		if fault == api.OK {
			w, fault := Eval(folded, values)
			want(t, fmt.Sprintf("Fold of %+v", e), w, v, fault, api.OK)
		}
	}
}

// TestP12_3Linear has values of linear forms.
func TestP12_3Linear(t *testing.T) {
	r := rand.New(rand.NewSource(8))
	count := 0
	for range 20000 {
		e, values := randomFormed(r, 2), randomValues(r, 2)
		l, ok, _ := Linear(e, 2)
		v, fault := Eval(e, values)
		if !ok || fault != api.OK {
			continue
		}
		count++
		w, fault := linear.Eval(l, []api.Rat{api.Rat(values[0]), api.Rat(values[1])})
		want(t, fmt.Sprintf("Linear of %+v", e), w, v, fault, api.OK)
	}
	if count < 1000 {
		t.Errorf("only %d linear forms with values", count)
	}
}

// TestP12_3Divisors has values of divisors.
func TestP12_3Divisors(t *testing.T) {
	r := rand.New(rand.NewSource(9))
	counts := map[bool]int{}
	for range 20000 {
		e, values := randomFormed(r, 2), randomValues(r, 2)
		list, _ := Divisors(e, 2)
		isZero := false
		for _, d := range list {
			v, fault := Eval(d, values)
			isZero = isZero || v == "0" || fault == api.ErrZero
		}
		_, fault := Eval(e, values)
		counts[fault == api.ErrZero]++
		if fault == api.ErrZero && !isZero {
			t.Errorf("%+v with %v divides by zero, and no divisor is zero", e, values)
		}
		if isZero && fault == api.OK {
			t.Errorf("%+v with %v has a divisor that is zero, and a value", e, values)
		}
	}
	if min(counts[true], counts[false]) < 1000 {
		t.Errorf("values and divisions by zero: %v", counts)
	}
}

// TestP12_3Substitute has values behind substitutions, and renamed ones.
func TestP12_3Substitute(t *testing.T) {
	r := rand.New(rand.NewSource(10))
	for range 20000 {
		e, by, values := randomFormed(r, 3), randomFormed(r, 3), randomValues(r, 3)
		i := r.Intn(3)
		v, fault := Eval(by, values)
		if fault != api.OK {
			continue
		}
		if result, fault := Substitute(e, 3, i, by); fault == api.OK {
			got, e1 := Eval(result, values)
			replaced := append([]api.Int{}, values...)
			replaced[i] = v
			wanted, e2 := Eval(e, replaced)
			want(t, fmt.Sprintf("Substitute of %+v", e), got, wanted, e1, e2)
		}
		to := r.Perm(3)
		renamed, _ := Rename(e, to, 3)
		permuted := []api.Int{values[to[0]], values[to[1]], values[to[2]]}
		got, e1 := Eval(renamed, values)
		wanted, e2 := Eval(e, permuted)
		want(t, fmt.Sprintf("Rename of %+v", e), got, wanted, e1, e2)
	}
}

// TestMemory changes arguments and results behind calls (P1).
func TestMemory(t *testing.T) {
	e := func() api.Expr {
		return node(api.ExprDiv, node(api.ExprAdd, x, x), node(api.ExprMod, node(api.ExprAdd, num("1"), node(api.ExprNeg, x)), y))
	}
	by := func() api.Expr { return node(api.ExprAdd, num("5"), y) }
	for i, function := range []func(e, by api.Expr) []api.Expr{
		func(e, _ api.Expr) []api.Expr { f, _ := Fold(e, 2); return []api.Expr{f} },
		func(e, _ api.Expr) []api.Expr { l, _ := Divisors(e, 2); return l },
		func(e, by api.Expr) []api.Expr { s, _ := Substitute(e, 2, 0, by); return []api.Expr{s} },
		func(e, by api.Expr) []api.Expr { s, _ := Substitute(by, 2, 0, e); return []api.Expr{s} },
		func(e, _ api.Expr) []api.Expr { s, _ := Rename(e, []int{1, 0}, 2); return []api.Expr{s} },
	} {
		a, b := e(), by()
		results := function(a, b)
		before := fmt.Sprintf("%+v", results)
		want(t, fmt.Sprint("arguments ", i), fmt.Sprintf("%+v", []api.Expr{a, b}), fmt.Sprintf("%+v", []api.Expr{e(), by()}), 0, 0)
		spoil(a)
		spoil(b)
		want(t, fmt.Sprint("results ", i), fmt.Sprintf("%+v", results), before, 0, 0)
		checkShared(t, fmt.Sprint("result ", i), results)
	}
}

// spoil changes all memory of an expression.
func spoil(e api.Expr) {
	for i := range e.Args {
		spoil(e.Args[i])
		e.Args[i] = api.Expr{Op: 99, Num: "spoilt", Var: 99}
	}
}

// checkShared checks that no two lists share memory.
func checkShared(t *testing.T, what string, results []api.Expr) {
	seen := map[*api.Expr]bool{}
	for _, result := range results {
		for _, part := range list(result) {
			if len(part.Args) == 0 {
				continue
			}
			if seen[&part.Args[0]] {
				t.Errorf("%s shares memory", what)
			}
			seen[&part.Args[0]] = true
		}
	}
}
