package resolve

import (
	"fmt"
	"strings"
	"testing"

	"surveyor/api"
)

// This file has programs with as many parts as there may be, and with one more.

// repeat returns n times a text with a separator between, in which # stands for the number. The mark @ is left in the last one.
func repeat(n int, separator, text string) string {
	var list []string
	for i := range n {
		if i > 0 {
			list[i-1] = strings.Replace(list[i-1], "@", "", 1)
		}
		list = append(list, strings.ReplaceAll(text, "#", fmt.Sprint(i)))
	}
	return strings.Join(list, separator)
}

// wantLimit checks that there may be n parts, and that one more has an error.
func wantLimit(t *testing.T, n int, text func(n int) string, e api.Errno) {
	t.Helper()
	wantRight(t, strings.Replace(text(n), "@", "", 1))
	wantFault(t, text(n+1), e)
}

func TestP11_1Numbers(t *testing.T) {
	six := "record p { u, v, w, x, y, z } "
	for _, c := range []struct {
		most                            int
		before, separator, part, behind string
	}{
		{1024, "", "", "@record p# { u } ", "proc f(a : p9) { }"},
		{6, "record p { ", ", ", "@u#", " }"},
		{12, "", "", "@proc f#() { } ", "record p { u }"},
		{12, "", "", "@import proc f#(); ", ""},
		{11, "import proc f(); ", "", "@proc f#() { } ", ""},
		{12, "proc f(", ", ", "@a#", ") { }"},
		{12, "import proc f(", ", ", "@a#", ");"},
		{12, "proc f() returns (", ", ", "@a#", ") { }"},
		{12, "proc f() { var ", ", ", "@a#", "; }"},
		{12, "proc f() { ", "", "var @a#; ", "}"},
		{10, "proc f(a) returns (b) { array c[1]; var ", ", ", "@a#", "; }"},
		{2, six + "proc f(", ", ", "@a# : p", ") { }"},
		{1, six + "proc f(a) returns (", ", ", "@a# : p", ") { }"},
		{6, six + "proc f(a : p) { var ", ", ", "@a#", "; }"},
		{1, six + "proc f(a, b, c) { var d, e, f; ", "", "var @a# : p; ", "}"},
		{4, "proc f() { ", "", "@array a#[32]; ", "}"},
		{3, "proc f() { array a[1]; var b; ", "", "@array a#[1]; ", "}"},
	} {
		wantLimit(t, c.most, func(n int) string { return c.before + repeat(n, c.separator, c.part) + c.behind }, api.ErrMany)
	}
	// These numbers are those of one procedure.
	wantRight(t, six+"proc f(a : p, b : p) { array c[1]; array d[1]; array e[1]; array f[1]; } proc g(a : p, b : p) { array c[1]; array d[1]; array e[1]; array f[1]; }")
}

func TestP11_1Counts(t *testing.T) {
	head := "record q { u, v } record r { u, v, w } record p { u } proc f() { var a, b : p, c : q, d : r; array s[1]; "
	for _, c := range []struct {
		most                 int
		before, part, behind string
	}{
		{128, "", "@assume true; ", ""},
		{128, "", "@assert true; ", ""},
		{128, "", "@a := 1; ", ""},
		{128, "", "@a := input; ", ""},
		{128, "", "@a := s[0]; ", ""},
		{128, "", "@s[0] := a; ", ""},
		{128, "", "@f(); ", ""},
		{128, "", "@if a = 1 { } ", ""},
		{128, "", "@while a = 1 { } ", ""},
		{128, "", "@b := b; ", ""},
		{64, "", "@c := c; ", ""},
		{42, "", "@d := d; ", ""},
		{126, "c := c; ", "@b := b; ", ""},
		{62, "b := b; d := d; ", "@c := c; ", ""},
		{64, "", "@if true { a := a; } ", ""},
		{64, "", "@if true { } else if true { } ", ""},
		{42, "", "while true { @c := c; } ", ""},
		{127, "while true { ", "@a := 1; ", "}"},
		{126, "while true { if true { ", "@a := 1; ", "} }"},
		{126, "if true { a := 1; } else { ", "@a := a; ", "}"},
		{126, "if true { } else if true { ", "@a := a; ", "}"},
		{125, "if true { a := a; } else if true { ", "@a := a; ", "}"},
	} {
		wantLimit(t, c.most, func(n int) string { return head + c.before + repeat(n, "", c.part) + c.behind + "}" }, api.ErrMany)
	}
	full := "proc f() { " + strings.Repeat("assume true; ", 127)
	wantFault(t, full+"assume true; assume @x; }", api.ErrType)
	wantFault(t, full+"assume true; @x := y; }", api.ErrName)
	wantFault(t, full+"assume true; @if x { } }", api.ErrMany)
	wantFault(t, full+"assume true; @while x { } }", api.ErrMany)
	wantFault(t, full+"if true { @assume false; } }", api.ErrMany)
	wantFault(t, full+"while true { assume @x; } }", api.ErrType)
	wantFault(t, full+"if true { } else @if x { } }", api.ErrMany)
	wantFault(t, full+"if true { } @assume false; }", api.ErrMany)
	// The statements of one procedure are counted.
	wantRight(t, full+"assume true; } proc g() { "+strings.Repeat("assume true; ", 128)+"}")
}

func TestP11_1Depths(t *testing.T) {
	for _, inner := range []string{"assume true;", "a := b;", "c[0] := 1;", "f();", "while true { }", "if true { }"} {
		for _, c := range []struct{ open, close string }{{"while true { ", "} "}, {"if true { ", "} "}, {"if true { } else { ", "} "}, {"assume true; while true { ", "} assert true; "}, {"if true { ", "} else { } "}, {"if true { } else ", ""}} {
			if c.close == "" && inner != "if true { }" {
				continue
			}
			wantLimit(t, 16, func(n int) string {
				return "proc f() { var a, b; array c[1]; " + strings.Repeat(c.open, n-1) + "@" + inner + strings.Repeat(c.close, n-1) + "}"
			}, api.ErrDeep)
		}
	}
	open := "proc f() { " + strings.Repeat("if true { ", 15)
	wantFault(t, open+"if true { @x := y; } "+strings.Repeat("}", 16), api.ErrDeep)
	wantFault(t, open+"if true { @if x { y := 1; } } "+strings.Repeat("}", 16), api.ErrDeep)
	wantFault(t, open+"if @x { y := 1; } "+strings.Repeat("}", 16), api.ErrType)
	wantFault(t, open+"if true { } else @if x { } "+strings.Repeat("}", 16), api.ErrDeep)
	// A statement that is too deep is not counted.
	wantFault(t, "proc f() { "+strings.Repeat("assume true; ", 112)+strings.Repeat("if true { ", 16)+"@assume true; "+strings.Repeat("}", 17), api.ErrDeep)
}

// balanced returns a text with so many operands (at least one) that is no deeper than it has to be.
func balanced(n int, operator, operand string) string {
	if n == 1 {
		return operand
	}
	return "(" + balanced(n/2, operator, operand) + operator + balanced(n-n/2, operator, operand) + ")"
}

// chain returns a text with so many operands, which is as deep.
func chain(n int, operator, operand string) string {
	return strings.Repeat(operand+operator, n-1) + operand
}

// Places of expressions and conditions in programs: # stands for these, and ? for an expression behind them.
const (
	withExpressions = "a := #; | a := s[#]; | s[#] := ?; | s[0] := #; | a := f(#, ?); | a := f(1, #);"
	withConditions  = "if # { a := ?; } | while # { a := ?; } | assert #; | assume #;"
)

// wantSized checks the error of a condition or an expression in all places where it can be. Other errors of the statements come later.
func wantSized(t *testing.T, places, text string, e api.Errno) {
	t.Helper()
	for _, place := range strings.Split(places, " | ") {
		src := "proc f(p, q) returns (r) { var a; array s[1]; " + place + " }"
		if e == api.OK {
			wantRight(t, strings.NewReplacer("#", text, "?", "1").Replace(src))
		} else {
			wantFault(t, strings.NewReplacer("#", marked(text), "?", "b").Replace(src), e)
		}
	}
}

// marked returns a text with a mark at the offset of its construct: what is within parentheses has its own.
func marked(text string) string {
	if closes(text) {
		return "(" + marked(text[1:len(text)-1]) + ")"
	}
	return "@" + text
}

// closes reports whether a text is all within a parenthesis at its beginning.
func closes(text string) bool {
	for i := 1; i < len(text); i++ {
		if strings.Count(text[:i], "(") == strings.Count(text[:i], ")") {
			return false
		}
	}
	return true
}

// TestP11_1Expressions has expressions with as many nodes, and as deep, as they may be, and with one more.
func TestP11_1Expressions(t *testing.T) {
	for _, c := range []struct {
		text string
		e    api.Errno
	}{
		{balanced(32, " + ", "p"), api.OK}, {"-" + balanced(32, " * ", "p"), api.OK}, {"--" + balanced(32, " - ", "1"), api.ErrMany}, {balanced(33, " / ", "q"), api.ErrMany},
		{chain(16, " + ", "p"), api.OK}, {chain(17, " + ", "p"), api.ErrDeep}, {chain(32, " + ", "p"), api.ErrDeep}, {chain(33, " % ", "p"), api.ErrMany}, {chain(100, " - ", "p"), api.ErrMany},
		{strings.Repeat("-", 15) + "1", api.OK}, {strings.Repeat("-", 16) + "1", api.ErrDeep}, {"0 + " + strings.Repeat("-", 15) + "1", api.ErrDeep}, {strings.Repeat("-", 59) + "(1 + 1 + 1)", api.ErrDeep}, {strings.Repeat("-", 60) + "(1 + 1 + 1)", api.ErrMany}, {"0 - " + strings.Repeat("-", 14) + "1", api.OK},
	} {
		wantSized(t, withExpressions, c.text, c.e)
	}
	// Errors within it come first, wherever they are.
	wantFault(t, "proc f() { var a; a := "+chain(100, " + ", "1")+" + @b; }", api.ErrName)
	wantFault(t, "proc f() { var a; a := "+strings.Repeat("-", 60)+"@true; }", api.ErrType)
	wantFault(t, "proc f() { var a; a := @"+chain(17, " + ", "a")+"; b := 1; }", api.ErrDeep)
}

// TestP11_1Conditions has the same for conditions, with those of their expressions.
func TestP11_1Conditions(t *testing.T) {
	for _, c := range []struct {
		text string
		e    api.Errno
	}{
		{balanced(32, " and ", "true"), api.OK}, {"not " + balanced(32, " or ", "false"), api.OK}, {"not not " + balanced(32, " or ", "true"), api.ErrMany}, {balanced(33, " and ", "true"), api.ErrMany},
		{balanced(16, " and ", "p = 1"), api.OK}, {"not " + balanced(16, " and ", "p = 1"), api.OK}, {"not not " + balanced(16, " and ", "p = 1"), api.ErrMany}, {balanced(16, " or ", "-p <= -1"), api.ErrMany},
		{balanced(16, " + ", "p") + " < " + balanced(16, " * ", "q"), api.OK}, {"not " + balanced(16, " + ", "p") + " < " + balanced(16, " * ", "q"), api.OK}, {balanced(16, " + ", "p") + " > " + balanced(17, " * ", "q"), api.ErrMany},
		{chain(16, " and ", "true"), api.OK}, {chain(17, " and ", "true"), api.ErrDeep}, {chain(33, " or ", "true"), api.ErrMany}, {strings.Repeat("not ", 15) + "true", api.OK}, {strings.Repeat("not ", 16) + "true", api.ErrDeep}, {strings.Repeat("not ", 16) + "p = 1", api.ErrDeep},
		{strings.Repeat("not ", 15) + "1 = " + strings.Repeat("-", 15) + "1", api.OK}, {strings.Repeat("not ", 15) + chain(16, " + ", "p") + " != 1", api.OK}, {"true and (1 = " + strings.Repeat("-", 16) + "1)", api.ErrDeep}, {chain(17, " + ", "p") + " >= 1", api.ErrDeep}, {"p < 1 or q > " + chain(17, " + ", "p"), api.ErrDeep}, {strings.Repeat("not ", 16) + chain(17, " + ", "p") + " = " + chain(17, " + ", "p"), api.ErrMany},
	} {
		wantSized(t, withConditions, c.text, c.e)
		for _, word := range []string{"requires ", "ensures "} {
			if c.e == api.OK {
				wantRight(t, "proc f(p, q) "+word+c.text+" { }")
			} else {
				wantFault(t, "proc f(p, q) "+word+marked(c.text)+" { }", c.e)
			}
		}
	}
	wantFault(t, "proc f() { assume "+chain(100, " and ", "true")+" and @x; }", api.ErrType)
	wantFault(t, "proc f() { assume 1 = "+chain(100, " + ", "1")+" or @x = 1; }", api.ErrName)
	wantFault(t, "proc f() { assume @"+chain(33, " and ", "true")+"; x := 1; }", api.ErrMany)
}

// above returns a node with operands; it is at the offset 7.
func above(text string, kids ...api.Syntax) api.Syntax {
	return api.Syntax{Kind: api.NodeUnary + len(kids) - 1, At: 7, Text: text, Kids: kids}
}

// TestSizes has trees that are deeper and wider than any text (P1), with an error at their ends or without.
func TestSizes(t *testing.T) {
	const size = 200000
	leaf := api.Syntax{Kind: api.NodePlace, At: 8, Text: "a"}
	truth := api.Syntax{Kind: api.NodeTruth, At: 8, Text: "true"}
	for i, c := range []struct {
		grow func(x api.Syntax) api.Syntax
		end  string
		at   int
		e    api.Errno
	}{
		{func(x api.Syntax) api.Syntax { return above("+", x, leaf) }, "a", 7, api.ErrMany}, {func(x api.Syntax) api.Syntax { return above("+", leaf, x) }, "a", 7, api.ErrMany}, {func(x api.Syntax) api.Syntax { return above("-", x) }, "a", 7, api.ErrMany},
		{func(x api.Syntax) api.Syntax { return above("*", x, leaf) }, "b", 9, api.ErrName}, {func(x api.Syntax) api.Syntax { return above("%", leaf, x) }, "b", 9, api.ErrName}, {func(x api.Syntax) api.Syntax { return above("-", x) }, "b", 9, api.ErrName},
		{func(x api.Syntax) api.Syntax { return above("and", x, truth) }, "a", 9, api.ErrType}, {func(x api.Syntax) api.Syntax { return above("or", truth, x) }, "a", 9, api.ErrType}, {func(x api.Syntax) api.Syntax { return above("not", x) }, "a", 9, api.ErrType},
	} {
		x := api.Syntax{Kind: api.NodePlace, At: 9, Text: c.end}
		for range size {
			x = c.grow(x)
		}
		tree := parse(t, "proc f(a) returns (r) { r := 1; assert true; }")
		statements := tree.Kids[0].Kids[4].Kids
		if i < 6 {
			statements[0].Kids[1] = x
		} else {
			statements[1].Kids[0] = x
		}
		want(t, fmt.Sprint("a deep tree ", i), programOf(tree), result{api.Program{}, c.at, c.e})
	}
	for _, c := range []struct {
		list func(program, body *api.Syntax) *[]api.Syntax
		last int // kid of the list, which is repeated
		at   int
		e    api.Errno
	}{
		{func(program, _ *api.Syntax) *[]api.Syntax { return &program.Kids }, 1, 1000, api.ErrTwice},
		{func(program, _ *api.Syntax) *[]api.Syntax { return &program.Kids[0].Kids }, 0, 1000, api.ErrTwice},
		{func(program, _ *api.Syntax) *[]api.Syntax { return &program.Kids[1].Kids[0].Kids }, 0, 1000, api.ErrTwice},
		{func(_, body *api.Syntax) *[]api.Syntax { return &body.Kids[0].Kids }, 0, 1000, api.ErrTwice},
		{func(_, body *api.Syntax) *[]api.Syntax { return &body.Kids }, 2, 1127, api.ErrMany},
		{func(_, body *api.Syntax) *[]api.Syntax { return &body.Kids[2].Kids[0].Kids }, 0, 1000, api.ErrTwice},
		{func(_, body *api.Syntax) *[]api.Syntax { return &body.Kids[2].Kids[1].Kids }, 0, 63, api.ErrShape},
	} {
		tree := parse(t, "record p { u } proc f(a) returns (r) { var b; array c[1]; b := f(1); }")
		list := c.list(&tree, &tree.Kids[1].Kids[4])
		for i := range size {
			kid := (*list)[c.last]
			kid.At = 1000 + i
			*list = append(*list, kid)
		}
		want(t, fmt.Sprint("a list with so many of kid ", c.last), programOf(tree), result{api.Program{}, c.at, c.e})
	}
	tree := parse(t, "proc f() { if true { } }")
	branch := &tree.Kids[0].Kids[4].Kids[0]
	for i := range size {
		*branch = api.Syntax{Kind: api.NodeIf, At: size - i, Kids: append(branch.Kids[:2:2], *branch)}
	}
	want(t, "branches", programOf(tree), result{api.Program{}, 17, api.ErrDeep})
}
