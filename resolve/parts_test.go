package resolve

import (
	"fmt"
	"strings"
	"testing"

	"surveyor/api"
	"surveyor/parser"
	"surveyor/printer"
)

func condTree(t *testing.T, src string) api.Syntax {
	t.Helper()
	tree, at, e := parser.Cond(src)
	if e != api.OK {
		t.Fatalf("%q has no tree: %d, %d", src, at, e)
	}
	return tree
}

func exprOf(tree api.Syntax, names []string) result {
	x, at, e := Expr(tree, names)
	return result{x, at, e}
}

func condOf(tree api.Syntax, names []string) result {
	x, at, e := Cond(tree, names)
	return result{x, at, e}
}

func TestP11_2Examples(t *testing.T) {
	a, b, c := variable(0), variable(1), variable(2)
	want(t, "Cond", condOf(condTree(t, "a >= b and not c != 1"), []string{"a", "b", "c"}),
		result{connect(api.CondAnd, compare(api.CondLe, b, a), connect(api.CondNot, compare(api.CondNe, c, num("1")))), 0, api.OK})
}

func TestP11_2Expr(t *testing.T) {
	names := []string{"a", "b.u", "b.v", "c"}
	for _, c := range []struct {
		src string
		x   api.Expr
	}{
		{"a", variable(0)}, {"b . v", variable(2)}, {"(c)", variable(3)}, {"0", num("0")}, {strings.Repeat("9", 100), num(api.Int(strings.Repeat("9", 100)))},
		{"-1", node(api.ExprNeg, num("1"))}, {"a + b.u", node(api.ExprAdd, variable(0), variable(1))}, {"a - 2", node(api.ExprSub, variable(0), num("2"))}, {"a * c", node(api.ExprMul, variable(0), variable(3))}, {"a / c", node(api.ExprDiv, variable(0), variable(3))}, {"a % c", node(api.ExprMod, variable(0), variable(3))},
		{"a - b.u - -(c + 1)", node(api.ExprSub, node(api.ExprSub, variable(0), variable(1)), node(api.ExprNeg, node(api.ExprAdd, variable(3), num("1"))))},
	} {
		want(t, c.src, exprOf(condTree(t, c.src), names), result{c.x, 0, api.OK})
	}
}

func TestP11_2Cond(t *testing.T) {
	names := []string{"a", "b.u"}
	a, b := variable(0), variable(1)
	yes, no := api.Cond{Op: api.CondTrue}, api.Cond{Op: api.CondFalse}
	for _, c := range []struct {
		src string
		x   api.Cond
	}{
		{"true", yes}, {"(false)", no}, {"not true", connect(api.CondNot, yes)}, {"true and false", connect(api.CondAnd, yes, no)}, {"true or false", connect(api.CondOr, yes, no)},
		{"a = b.u", compare(api.CondEq, a, b)}, {"a != b.u", compare(api.CondNe, a, b)}, {"a < b.u", compare(api.CondLt, a, b)}, {"a <= b.u", compare(api.CondLe, a, b)}, {"a > b.u", compare(api.CondLt, b, a)}, {"a >= b.u", compare(api.CondLe, b, a)},
		{"true or false and not a + 1 > -b.u", connect(api.CondOr, yes, connect(api.CondAnd, no, connect(api.CondNot, compare(api.CondLt, node(api.ExprNeg, b), node(api.ExprAdd, a, num("1"))))))},
	} {
		want(t, c.src, condOf(condTree(t, c.src), names), result{c.x, 0, api.OK})
	}
}

// TestP11_2Faults has errors of conditions and expressions, at the marks.
func TestP11_2Faults(t *testing.T) {
	names := []string{"a", "b.u", "b", "d.u"}
	for _, c := range []struct {
		marked     string
		expr, cond api.Errno // OK where there is another error, or none
	}{
		{"@c", api.ErrName, api.ErrType}, {"@a.u", api.ErrName, api.ErrType}, {"@b.v", api.ErrName, 0}, {"@d", api.ErrName, 0}, {"1 + @d", api.ErrName, 0}, {"1 < @d", 0, api.ErrName}, {"d.u * -(@c)", api.ErrName, 0}, {"d.u > b + @c.u", 0, api.ErrName},
		{"@true", api.ErrType, 0}, {"@a < c", api.ErrType, 0}, {"@not true", api.ErrType, 0}, {"@a and true", api.ErrType, api.ErrType}, {"@a or b", api.ErrType, api.ErrType}, {"1 - (@a = b)", api.ErrType, 0}, {"1 - -(@not a)", api.ErrType, 0}, {"(@true) + c", api.ErrType, 0}, {"@c + (true)", api.ErrName, api.ErrType},
		{"@1", 0, api.ErrType}, {"@-a", 0, api.ErrType}, {"@a + b", 0, api.ErrType}, {"not @a", 0, api.ErrType}, {"true and @a * b", 0, api.ErrType}, {"(@a < b) < c", 0, api.ErrType}, {"a < (@true)", 0, api.ErrType}, {"a = a or @c = c", 0, api.ErrName}, {"a = a or not @c", 0, api.ErrType},
		{"@" + chain(17, " + ", "a"), api.ErrDeep, 0}, {"@" + chain(33, " + ", "a"), api.ErrMany, 0}, {"@" + chain(17, " and ", "true"), 0, api.ErrDeep}, {"@" + chain(33, " or ", "true"), 0, api.ErrMany}, {"@1 = " + chain(17, " + ", "a"), 0, api.ErrDeep}, {"true or (true or 1 = 1) and " + chain(33, " + ", "a") + " > @c", 0, api.ErrName},
		{"-(" + chain(17, " + ", "a") + " - @c)", api.ErrName, api.OK},
	} {
		tree, _, _ := parser.Cond(strings.Replace(c.marked, "@", "", 1))
		at := strings.Index(c.marked, "@")
		if c.expr != api.OK {
			want(t, "Expr of "+c.marked, exprOf(tree, names), result{api.Expr{}, at, c.expr})
		}
		if c.cond != api.OK {
			want(t, "Cond of "+c.marked, condOf(tree, names), result{api.Cond{}, at, c.cond})
		}
	}
}

// TestP11_2Arguments has errors of arguments, which come first and have the offset 0.
func TestP11_2Arguments(t *testing.T) {
	twelve := strings.Fields("a b c d e f g h i j k l")
	for _, c := range []struct {
		what  string
		tree  api.Syntax
		names []string
		e     api.Errno
	}{
		{"12 names", condTree(t, "1 - l = l"), twelve, api.OK}, {"13 names", condTree(t, "l = l"), append(twelve, "m"), api.ErrMany}, {"13 names and no tree", api.Syntax{}, append(twelve, "m"), api.ErrMany}, {"12 names and no tree", api.Syntax{}, twelve, api.ErrArg}, {"13 names and an error", condTree(t, "1 + x = x"), append(twelve, "m"), api.ErrMany},
		{"a kind", api.Syntax{Kind: api.NodeInput, At: 5}, nil, api.ErrArg}, {"a kind that does not exist", api.Syntax{Kind: 99, At: 5}, nil, api.ErrArg}, {"kids", api.Syntax{Kind: api.NodeUnary, At: 5, Text: "-"}, nil, api.ErrShape}, {"a name", api.Syntax{Kind: api.NodePlace, At: 5, Text: "if"}, []string{"if"}, api.ErrName}, {"a number", api.Syntax{Kind: api.NodeNumber, At: 5, Text: "01"}, nil, api.ErrForm}, {"a negative number", api.Syntax{Kind: api.NodeNumber, At: 5, Text: "-1"}, nil, api.ErrForm},
		{"a long text", condTree(t, "a = 1"), twelve, api.OK}, {"a text that is too long", grown(70000, above("=", condTree(t, "a"), condTree(t, "b"))), twelve, api.ErrLong}, {"a text that is too deep", grown(65, condTree(t, "a")), twelve, api.ErrDeep},
	} {
		if _, e := printer.Cond(c.tree); len(c.names) <= 12 {
			want(t, c.what+" for printer.Cond", e, c.e)
		}
		for _, got := range []result{exprOf(c.tree, c.names), condOf(c.tree, c.names)} {
			if c.e != api.OK {
				got.value = nil
				want(t, c.what, got, result{nil, 0, c.e})
			} else if got.e == c.e {
				want(t, c.what, got.at, 0)
			}
		}
	}
	// Names that are no names of variables stand for nothing.
	want(t, "names", exprOf(condTree(t, "a.u + a"), []string{"", "a.", ".u", "a .u", "a", "a.u"}), result{node(api.ExprAdd, variable(5), variable(4)), 0, api.OK})
	want(t, "no names", exprOf(condTree(t, "1"), nil), result{num("1"), 0, api.OK})
}

// grown returns a tree with so many operators more.
func grown(n int, x api.Syntax) api.Syntax {
	for range n {
		x = above("-", x)
	}
	return x
}

func fieldsOf(tree api.Syntax, record string) string {
	list, e := Fields(tree, record)
	return fmt.Sprint(list, e)
}

func namesOf(tree api.Syntax) string {
	declared, imported, e := Names(tree)
	return fmt.Sprint(declared, imported, e)
}

func TestP11_2Fields(t *testing.T) {
	tree := parse(t, "record p { u } proc q() { } record r { b, a, b } record p { v } record s { a, b, c, d, e, f, g } proc t(x : s) { y := z; }")
	for record, fields := range map[string]string{"p": "[u] 0", "r": "[b a b] 0", "s": "[a b c d e f g] 0", "q": "[] 6", "": "[] 6", "u": "[] 6", "if": "[] 6"} {
		want(t, "Fields of "+record, fieldsOf(tree, record), fields)
	}
	want(t, "Fields of nothing", fieldsOf(api.Syntax{}, "p"), "[] 6")
	for _, wrong := range wrongPrograms(t) {
		e := printer.Check(wrong)
		want(t, "Fields", fieldsOf(wrong, "p"), fmt.Sprint("[] ", int(e)))
		want(t, "Fields", fieldsOf(wrong, "x"), fmt.Sprint("[] ", int(e)))
	}
}

func TestP11_2Names(t *testing.T) {
	for _, c := range []struct{ src, names string }{
		{"", "[] [] 0"}, {"record p { u }", "[] [] 0"}, {"proc f() { }", "[f] [] 0"}, {"import proc f();", "[] [f] 0"},
		{"proc f() { } import proc a(x : y); record z { f } proc b() { c(); } import proc d(); proc b() { } import proc b();", "[f b b] [a d b] 0"},
		{strings.Repeat("proc f() { }", 20), "[" + strings.TrimSpace(strings.Repeat("f ", 20)) + "] [] 0"},
	} {
		want(t, c.src, namesOf(parse(t, c.src)), c.names)
	}
	for _, wrong := range wrongPrograms(t) {
		want(t, "Names", namesOf(wrong), fmt.Sprint("[] [] ", int(printer.Check(wrong))))
	}
}

// wrongPrograms returns trees with the errors of printer.Check, behind others of layer 11.
func wrongPrograms(t *testing.T) []api.Syntax {
	list := []api.Syntax{{Kind: api.NodeRecord, At: 3, Text: "p", Kids: []api.Syntax{{Kind: api.NodeName, Text: "u"}}}, {Kind: -1, At: 7}, {At: 9, Text: "p"}}
	for _, change := range []func(*api.Syntax){
		func(x *api.Syntax) { x.Kind = api.NodeInput }, func(x *api.Syntax) { x.Kids = nil }, func(x *api.Syntax) { x.Kids[0].Kids[0].Text = "1" }, func(x *api.Syntax) { x.Kids[1].Text = "==" },
	} {
		tree := parse(t, "record p { u, u } proc f() { x, y := 1 + 2; }")
		change(&tree.Kids[1].Kids[4].Kids[0])
		list = append(list, tree)
	}
	return list
}

// TestP11_1Trees has trees that are not well-formed.
func TestP11_1Trees(t *testing.T) {
	var errors []api.Errno
	for _, tree := range wrongPrograms(t) {
		e := printer.Check(tree)
		errors = append(errors, e)
		want(t, "a wrong tree", programOf(tree), result{api.Program{}, 0, e})
	}
	want(t, "errors", errors, []api.Errno{api.ErrArg, api.ErrArg, api.ErrForm, api.ErrArg, api.ErrShape, api.ErrName, api.ErrForm})
}
