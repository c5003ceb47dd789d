package parser

import (
	"fmt"
	"math/rand"
	"strings"
	"testing"

	"surveyor/api"
	"surveyor/lexer"
)

// function is one of the functions of the package, with the symbol of the grammar that it reads.
type function struct {
	name, symbol string
	parse        func(string) (api.Syntax, int, api.Errno)
}

var functions = []function{{"Parse", "program", Parse}, {"Proc", "procedure", Proc}, {"Cond", "cond", Cond}, {"Expr", "expr", Expr}}

// wantTree checks that a text has a tree.
func wantTree(t *testing.T, f function, src, tree string) {
	t.Helper()
	got, at, e := f.parse(src)
	if dump(got) != tree || at != 0 || e != api.OK {
		t.Errorf("%s of %.300q:\n got %s, %d, %d\nwant %s", f.name, src, dump(got), at, e, tree)
	}
}

// wantError checks that a text has an error.
func wantError(t *testing.T, f function, src string, at int, e api.Errno) {
	t.Helper()
	got, place, errno := f.parse(src)
	if dump(got) != dump(api.Syntax{}) || place != at || errno != e {
		t.Errorf("%s of %.300q: got %.100s, %d, %d, want %d, %d", f.name, src, dump(got), place, errno, at, e)
	}
}

// wantMarked checks that a text has an error where a mark stands in it.
func wantMarked(t *testing.T, f function, marked string, e api.Errno) {
	t.Helper()
	before, behind, found := strings.Cut(marked, "¦")
	if !found {
		t.Fatalf("no mark: %s", marked)
	}
	wantError(t, f, before+behind, len(before), e)
}

// The indices of the functions.
const (
	ofPrograms = iota
	ofProcedures
	ofConditions
	ofExpressions
)

func TestP9_1Examples(t *testing.T) {
	wantTree(t, functions[ofPrograms], "proc f(){x := a[i];}", "program@0 (proc@0 f (list@6 list@8 when@8 when@8 block@8 (assign@9 (list@9 (place@9 x) load@14 a (place@16 i)))))")
	wantMarked(t, functions[ofPrograms], "proc f(){x := a[i] ¦+ 1;}", api.ErrSyntax)
}

// TestP9_1Nodes has each kind of node, with its offset.
func TestP9_1Nodes(t *testing.T) {
	for _, c := range []struct{ src, tree string }{
		{"", "program@0"},
		{" # x\n ", "program@6"},
		{" record p{u}", "program@1 (record@1 p (name@10 u))"},
		{"record p { u, v , w }", "program@0 (record@0 p (name@11 u name@14 v name@18 w))"},
		{"import proc f();", "program@0 (proc@0 f (list@13 list@15 when@15 when@15))"},
		{"import proc f ( a ) returns ( b ) requires c ensures d ;", "program@0 (proc@0 f (list@14 (param@16 a) list@28 (param@30 b) when@34 (place@43 c) when@45 (place@53 d)))"},
		{"proc f() { }", "program@0 (proc@0 f (list@6 list@9 when@9 when@9 block@9))"},
		{"proc f() returns (r) { }", "program@0 (proc@0 f (list@6 list@17 (param@18 r) when@21 when@21 block@21))"},
		{"proc f() requires a { }", "program@0 (proc@0 f (list@6 list@9 when@9 (place@18 a) when@20 block@20))"},
		{"proc f() ensures a { }", "program@0 (proc@0 f (list@6 list@9 when@9 when@9 (place@17 a) block@19))"},
		{"proc f(a : p, b, c:q) { }", "program@0 (proc@0 f (list@6 (param@7 a (name@11 p) param@14 b param@17 c (name@19 q)) list@22 when@22 when@22 block@22))"},
		{"proc a(){}proc b(){}import proc a();", "program@0 (proc@0 a (list@6 list@8 when@8 when@8 block@8) proc@10 b (list@16 list@18 when@18 when@18 block@18) proc@20 a (list@33 list@35 when@35 when@35))"},
	} {
		wantTree(t, functions[ofPrograms], c.src, c.tree)
	}
}

func TestP9_1Statements(t *testing.T) {
	for _, c := range []struct{ src, tree string }{
		{"var x;", "var@9 (param@13 x)"},
		{"var x, y : p;", "var@9 (param@13 x param@16 y (name@20 p))"},
		{"array a[10];", "array@9 a #10"},
		{"array a[0];", "array@9 a"},
		{"array a[1048576];", "array@9 a #1048576"},
		{"var x; array a[1]; var y; x := 1;", "var@9 (param@13 x) array@16 a #1 var@28 (param@32 y) assign@35 (list@35 (place@35 x) number@40 1)"},
		{"x := input;", "assign@9 (list@9 (place@9 x) input@14)"},
		{"x := input1;", "assign@9 (list@9 (place@9 x) place@14 input1)"},
		{"x.u, y := input;", "assign@9 (list@9 (place@9 x (name@11 u) place@14 y) input@19)"},
		{"x := a[1 + i];", "assign@9 (list@9 (place@9 x) load@14 a (binary@16 + (number@16 1 place@20 i)))"},
		{"x := f();", "assign@9 (list@9 (place@9 x) call@14 f)"},
		{"x, y := f(1, z, (a = b));", "assign@9 (list@9 (place@9 x place@12 y) call@17 f (number@19 1 place@22 z binary@26 = (place@26 a place@30 b)))"},
		{"f();", "assign@9 (list@9 call@9 f)"},
		{"f(x.u, -1);", "assign@9 (list@9 call@9 f (place@11 x (name@13 u) unary@16 - (number@17 1)))"},
		{"x := y.u;", "assign@9 (list@9 (place@9 x) place@14 y (name@16 u))"},
		{"x := (y);", "assign@9 (list@9 (place@9 x) place@15 y)"},
		{"x := true;", "assign@9 (list@9 (place@9 x) truth@14 true)"},
		{"a[i] := 1 + j;", "store@9 a (place@11 i binary@17 + (number@17 1 place@21 j))"},
		{"if a { }", "if@9 (place@12 a block@14)"},
		{"if a { } else { }", "if@9 (place@12 a block@14 block@23)"},
		{"if a { } else if b { }", "if@9 (place@12 a block@14 if@23 (place@26 b block@28))"},
		{"if a { } else if b { } else { f(); }", "if@9 (place@12 a block@14 if@23 (place@26 b block@28 block@37 (assign@39 (list@39 call@39 f))))"},
		{"if a { } else { if b { } }", "if@9 (place@12 a block@14 block@23 (if@25 (place@28 b block@30)))"},
		{"while a and b { f(); }", "while@9 (binary@15 and (place@15 a place@21 b) block@23 (assign@25 (list@25 call@25 f)))"},
		{"assert not a;", "assert@9 (unary@16 not (place@20 a))"},
		{"assume a >= 0;", "assume@9 (binary@16 >= (place@16 a number@21 0))"},
		{"name := name;", "assign@9 (list@9 (place@9 name) place@17 name)"},
		{"assume a;assert b;", "assume@9 (place@16 a) assert@18 (place@25 b)"},
	} {
		wantTree(t, functions[ofPrograms], "proc f(){"+c.src+"}", "program@0 (proc@0 f (list@6 list@8 when@8 when@8 block@8 ("+c.tree+")))")
		wantTree(t, functions[ofProcedures], "proc f(){"+c.src+"}", "proc@0 f (list@6 list@8 when@8 when@8 block@8 ("+c.tree+"))")
	}
}

// TestP9_1Syntax has tokens that cannot stand where they do.
func TestP9_1Syntax(t *testing.T) {
	for _, marked := range []string{
		"¦x", "¦;", "¦}", "¦1", "¦var x;", "record¦", "record ¦{u}", "record ¦1", "record ¦if {u}", "record p¦", "record p ¦}", "record p {¦}", "record p { u¦", "record p { u,¦}", "record p { u ¦v }", "record p { u } ¦,", "record p { u ¦: q }", "record p { ¦true }",
		"import¦", "import ¦f();", "import ¦record p {u}", "import proc f() ¦{ }", "import proc f()¦", "import proc f() returns (r) ¦:=", "import ¦import proc f();", "proc¦", "proc ¦(", "proc ¦not()", "proc f¦", "proc f ¦{ }", "proc f(¦", "proc f(¦,", "proc f(a¦", "proc f(a,¦)", "proc f(a ¦b)", "proc f(a : ¦)", "proc f(a : ¦and)", "proc f(a : p ¦: q)", "proc f(a)¦", "proc f(a) ¦;", "proc f(a) ¦x", "proc f(¦1)", "proc f(¦input)", "proc f(a¦.u)",
		"proc f() returns ¦{ }", "proc f() returns (¦) { }", "proc f() returns (a,¦) { }", "proc f() returns (a) ¦returns (b) { }", "proc f() requires ¦{ }", "proc f() requires a ensures ¦{ }", "proc f() requires a ¦requires b { }", "proc f() ensures a ¦requires b { }", "proc f() requires a ¦returns (b) { }", "proc f() requires a ¦:= b { }",
		"proc f() {¦", "proc f() { } ¦}", "proc f() { } ¦;", "proc f() { var ¦; }", "proc f() { var x ¦}", "proc f() { var x,¦; }", "proc f() { var x ¦y; }", "proc f() { var x ¦:= 1; }", "proc f() { var x; x := 1; ¦var y; }", "proc f() { f(); ¦array a[1]; }", "proc f() { array ¦[1]; }", "proc f() { array a¦; }", "proc f() { array a[¦]; }", "proc f() { array a[¦n]; }", "proc f() { array a[¦-1]; }", "proc f() { array a[1 ¦+ 1]; }", "proc f() { array a[1¦; }", "proc f() { array a[1] ¦, b[1]; }", "proc f() { array a[1] ¦}", "proc f() { if a { ¦var x; } }", "proc f() { while a { ¦array b[1]; } }",
		"proc f() { ¦; }", "proc f() { ¦1 := x; }", "proc f() { ¦(x) := 1; }", "proc f() { ¦input; }", "proc f() { ¦else { } }", "proc f() { ¦{ } }", "proc f() { ¦true; }", "proc f() { ¦import proc f(); }", "proc f() { x ¦}", "proc f() { x ¦; }", "proc f() { x ¦= 1; }", "proc f() { x ¦: 1; }", "proc f() { x := ¦; }", "proc f() { x := 1 ¦}", "proc f() { x := 1 ¦:= 2; }", "proc f() { x, ¦:= 1; }", "proc f() { x, ¦1 := 1; }", "proc f() { x, y ¦; }", "proc f() { x, y¦[1] := 1; }", "proc f() { x, f¦(1); }", "proc f() { x. ¦:= 1; }", "proc f() { x.¦1 := 1; }", "proc f() { x.u ¦.v := 1; }", "proc f() { x.u¦[1] := 1; }", "proc f() { x.u¦(); }", "proc f() { x ¦+ y := 1; }",
		"proc f() { x := input ¦+ 1; }", "proc f() { x := input ¦, y; }", "proc f() { x := 1 + ¦input; }", "proc f() { x := (¦input); }", "proc f() { x := a[i] ¦+ 1; }", "proc f() { x := a[i]¦[i]; }", "proc f() { x := a[¦]; }", "proc f() { x := a[i¦, j]; }", "proc f() { x := a[i ¦< j]; }", "proc f() { x := 1 + a¦[i]; }", "proc f() { x := (a¦[i]); }", "proc f() { x := a.u¦[i]; }", "proc f() { x := f(1) ¦* 2; }", "proc f() { x := f()¦(); }", "proc f() { x := -f¦(); }", "proc f() { x := f(g¦(1)); }", "proc f() { x := f(a¦[1]); }", "proc f() { x := f(¦input); }", "proc f() { x := f(1 ¦2); }", "proc f() { x := f(1,¦); }", "proc f() { x := f(¦,1); }", "proc f() { x := f(1 ¦= 2); }", "proc f() { x := f(1 ¦}", "proc f() { x := f(¦not a); }",
		"proc f() { x := a ¦< b; }", "proc f() { x := ¦not a; }", "proc f() { x := a ¦and b; }", "proc f() { x := a ¦y; }", "proc f() { a[i] ¦; }", "proc f() { a[i] ¦= 1; }", "proc f() { a[i ¦:= 1; }", "proc f() { a[i]¦.u := 1; }", "proc f() { a[i]¦, x := 1; }", "proc f() { a[i] := ¦input; }", "proc f() { a[i] := b¦[j]; }", "proc f() { a[i] := f¦(); }", "proc f() { a[i] := 1 ¦< 2; }", "proc f() { a[i] := 1 ¦}", "proc f() { f() ¦}", "proc f() { f() ¦:= 1; }", "proc f() { f()¦, g(); }", "proc f() { f(¦; }", "proc f() { f(1¦; }",
		"proc f() { if ¦{ } }", "proc f() { if a ¦f(); }", "proc f() { if a { ¦", "proc f() { if a { } ¦; }", "proc f() { if a { } else ¦f(); }", "proc f() { if a { } else ¦while b { } }", "proc f() { if a { } else { } ¦else { } }", "proc f() { if a { } else if ¦{ } }", "proc f() { if a { } else if b ¦}", "proc f() { if a ¦:= b { } }", "proc f() { while ¦{ } }", "proc f() { while a ¦; }", "proc f() { while a { } ¦else { } }", "proc f() { assert ¦; }", "proc f() { assert a ¦}", "proc f() { assert a ¦, b; }", "proc f() { assume ¦; }", "proc f() { assume a ¦", "proc f() { assume a ¦:= 1; }", "proc f() { assume ¦input; }", "proc f() { assume a¦[1]; }", "proc f() { assume f¦(1); }",
	} {
		wantMarked(t, functions[ofPrograms], marked, api.ErrSyntax)
		if strings.HasPrefix(marked, "proc") || strings.HasPrefix(marked, "import") {
			wantMarked(t, functions[ofProcedures], marked, api.ErrSyntax)
		}
	}
}

// nested returns n texts, then one, then n others.
func nested(n int, before, middle, behind string) string {
	return strings.Repeat(before, n) + middle + strings.Repeat(behind, n)
}

// TestP9_1Levels opens as many levels as there may be, and one more, by each token that opens levels, and within the others.
func TestP9_1Levels(t *testing.T) {
	for _, c := range []struct{ before, repeated, middle, closing, behind string }{
		{"proc f(){", "while a {", "", "}", "}"},
		{"proc f(){", "if a {", "", "}", "}"},
		{"proc f(){", "if a {} else {", "", "}", "}"},
		{"proc f(){assert ", "(", "a", ")", ";}"},
		{"proc f(){assert ", "not ", "a", "", ";}"},
		{"proc f(){assert ", "-", "a", "", ";}"},
		{"proc f(){x:=", "(", "1", ")", ";}"},
		{"proc f(){x:=a[", "- ", "1", "", "];}"},
		{"proc f(){if a {} ", "else if a {} ", "", "", "}"},
		{"proc f(){f(", "(1+", "1", ")", ");}"},
	} {
		// The body is a level, and the last if behind else has a block.
		most := 63
		if strings.HasPrefix(c.repeated, "else if") {
			most = 62
		}
		src := func(n int) string { return c.before + nested(n, c.repeated, c.middle, c.closing) + c.behind }
		for _, f := range functions[:2] {
			if _, at, e := f.parse(src(most)); at != 0 || e != api.OK {
				t.Errorf("%s of %d levels %q: %d, %d", f.name, most, c.repeated, at, e)
			}
			for _, n := range []int{most + 1, most + 2, 1000} {
				at := len(c.before) + most*len(c.repeated) + strings.IndexAny(c.repeated, "{(n-")
				if c.repeated == "if a {} else {" {
					at = len(c.before) + most*len(c.repeated) + len("if a ")
				}
				if most == 62 {
					at = len(c.before) + most*len(c.repeated) + len("else if a ")
				}
				wantError(t, f, src(n), at, api.ErrDeep)
			}
		}
	}
	// Levels end where their constructs do: 62 of them, and 2 more again and again.
	full := nested(61, "while a {", "%s", "}")
	for _, part := range []string{"while b { } while c { x := (1); }", "if a { } else if b { } if c { } else if d { } else { }", "x := (1) + (2); assert not a or not b or -1 = - 2;", "f((1), (2), -3); a[(1)] := a.u;", "assert (not a) and (not a);", "x := -(1) * -(2);", "x := - -1; y := - -1;", "assume not not a and not not a;", "x := f((-1), (-2));"} {
		src := "proc f(){" + fmt.Sprintf(full, part) + "}"
		if _, at, e := Parse(src); at != 0 || e != api.OK {
			t.Errorf("%q in 62 levels: %d, %d", part, at, e)
		}
	}
	for _, part := range []string{"while a { while b { assert ¦(c); } }", "if a { } else if b { while c ¦{ } }", "x := -(1 + ¦(2));", "assert not not ¦(a);", "assert not not ¦not a;", "assert - -¦-a;", "if a { } else if b { } else if c ¦{ }", "if a { } else if b { } else if ¦(c) { }", "if a { } else if (b or ¦(c)) { }"} {
		wantMarked(t, functions[ofPrograms], "proc f(){"+fmt.Sprintf(full, part)+"}", api.ErrDeep)
	}
	// Here the if behind else is what opens too many levels.
	wantMarked(t, functions[ofPrograms], "proc f(){"+nested(62, "while a {", "if a { } else if b ¦{ }", "}")+"}", api.ErrDeep)
	wantMarked(t, functions[ofPrograms], "proc f(){"+nested(63, "while a {", "if a ¦{ } else if b { }", "}")+"}", api.ErrDeep)
}

// TestP9_1Range has arrays that are too long.
func TestP9_1Range(t *testing.T) {
	for _, n := range []string{"1048577", "9999999", "10000000", "9223372036854775807", "9223372036854775808", "18446744073709551616", strings.Repeat("9", 100)} {
		wantMarked(t, functions[ofPrograms], "proc f() { array a[¦"+n+"]; }", api.ErrRange)
		wantMarked(t, functions[ofProcedures], "proc f() { array a[¦"+n+"]; }", api.ErrRange)
		wantMarked(t, functions[ofProcedures], "proc f() { array a[¦"+n+" + 1", api.ErrRange)
		wantMarked(t, functions[ofPrograms], "proc f() { array a[1048576]; array a[¦"+n+"]; array b["+n+"]; }", api.ErrRange)
		wantMarked(t, functions[ofPrograms], "proc f() { array a[1 ¦"+n+"]; }", api.ErrSyntax)
		wantTree(t, functions[ofExpressions], n, "number@0 "+n)
	}
}

// TestP9_1First has several errors, of which those of the tokens count first, and then the leftmost one.
func TestP9_1First(t *testing.T) {
	deep := strings.Repeat("(", 70)
	for _, c := range []struct {
		src string
		e   api.Errno
	}{
		{"x ¦!", api.ErrSyntax}, {"x ¦01", api.ErrForm}, {"proc f() { array a[9999999]; } ¦3x", api.ErrSyntax}, {"proc f() { assert " + deep + " ¦" + strings.Repeat("9", 101), api.ErrLarge}, {"x y ¦" + strings.Repeat("n", 25) + " 01", api.ErrName},
		{"proc f() { array a[¦9999999] x", api.ErrRange}, {"proc f() { array a ¦9999999] x", api.ErrSyntax}, {"proc f() { array a[¦9999999]; assert " + deep, api.ErrRange},
		{"proc f() { assert " + deep[:63] + "¦" + deep + " a b c", api.ErrDeep}, {"proc f() { assert a ¦b" + deep, api.ErrSyntax}, {"proc f() { assert " + deep[:63] + "¦)", api.ErrSyntax},
	} {
		wantMarked(t, functions[ofPrograms], c.src, c.e)
	}
	for _, f := range functions {
		wantError(t, f, strings.Repeat(" ", api.MaxText+1), 0, api.ErrLong)
		wantError(t, f, strings.Repeat("x", api.MaxText+1), 0, api.ErrLong)
	}
	for _, f := range functions[:2] {
		wantError(t, f, strings.Repeat("-", api.MaxText), 0, api.ErrSyntax)
	}
	for _, f := range functions[2:] {
		wantError(t, f, strings.Repeat("-", api.MaxText), 64, api.ErrDeep)
		wantError(t, f, strings.Repeat("(", api.MaxText), 64, api.ErrDeep)
	}
}

func TestP9_2Examples(t *testing.T) {
	wantTree(t, functions[ofConditions], "not a < b or c", "binary@0 or (unary@0 not (binary@4 < (place@4 a place@8 b)) place@13 c)")
	wantMarked(t, functions[ofConditions], "a < b ¦< c", api.ErrSyntax)
	wantTree(t, functions[ofExpressions], "-(1 - 2) * x", "binary@0 * (unary@0 - (binary@2 - (number@2 1 number@6 2)) place@11 x)")
}

func TestP9_2Conditions(t *testing.T) {
	for _, c := range []struct{ src, tree string }{
		{"a", "place@0 a"},
		{" a . u ", "place@1 a (name@5 u)"},
		{"0", "number@0 0"},
		{"true", "truth@0 true"},
		{"(false)", "truth@1 false"},
		{"((a))", "place@2 a"},
		{"a or b or c", "binary@0 or (binary@0 or (place@0 a place@5 b) place@10 c)"},
		{"a or (b or c)", "binary@0 or (place@0 a binary@6 or (place@6 b place@11 c))"},
		{"a and b and c", "binary@0 and (binary@0 and (place@0 a place@6 b) place@12 c)"},
		{"a or b and c", "binary@0 or (place@0 a binary@5 and (place@5 b place@11 c))"},
		{"a and b or c", "binary@0 or (binary@0 and (place@0 a place@6 b) place@11 c)"},
		{"(a or b) and c", "binary@0 and (binary@1 or (place@1 a place@6 b) place@13 c)"},
		{"not a and b", "binary@0 and (unary@0 not (place@4 a) place@10 b)"},
		{"not not a", "unary@0 not (unary@4 not (place@8 a))"},
		{"not (a and b)", "unary@0 not (binary@5 and (place@5 a place@11 b))"},
		{"a and not b", "binary@0 and (place@0 a unary@6 not (place@10 b))"},
		{"not a = b", "unary@0 not (binary@4 = (place@4 a place@8 b))"},
		{"(not a) = b", "binary@0 = (unary@1 not (place@5 a) place@10 b)"},
		{"a=b", "binary@0 = (place@0 a place@2 b)"},
		{"a!=b", "binary@0 != (place@0 a place@3 b)"},
		{"a<b", "binary@0 < (place@0 a place@2 b)"},
		{"a<=b", "binary@0 <= (place@0 a place@3 b)"},
		{"a>b", "binary@0 > (place@0 a place@2 b)"},
		{"a>=b", "binary@0 >= (place@0 a place@3 b)"},
		{"(a<b)<c", "binary@0 < (binary@1 < (place@1 a place@3 b) place@6 c)"},
		{"a + 1 < b * 2", "binary@0 < (binary@0 + (place@0 a number@4 1) binary@8 * (place@8 b number@12 2))"},
		{"((a) + b) = c", "binary@0 = (binary@1 + (place@2 a place@7 b) place@12 c)"},
	} {
		wantTree(t, functions[ofConditions], c.src, c.tree)
		wantTree(t, functions[ofExpressions], "("+c.src+")", shifted(t, c.src))
	}
}

// shifted returns the tree of a condition behind a parenthesis.
func shifted(t *testing.T, src string) string {
	tree, _, e := Cond(" " + src)
	if e != api.OK {
		t.Errorf("%q: %d", src, e)
	}
	return dump(tree)
}

func TestP9_2Expressions(t *testing.T) {
	for _, c := range []struct{ src, tree string }{
		{"a-b-c", "binary@0 - (binary@0 - (place@0 a place@2 b) place@4 c)"},
		{"a-(b-c)", "binary@0 - (place@0 a binary@3 - (place@3 b place@5 c))"},
		{"a+b-c", "binary@0 - (binary@0 + (place@0 a place@2 b) place@4 c)"},
		{"a+b*c", "binary@0 + (place@0 a binary@2 * (place@2 b place@4 c))"},
		{"a*b+c", "binary@0 + (binary@0 * (place@0 a place@2 b) place@4 c)"},
		{"a/b%c*d", "binary@0 * (binary@0 % (binary@0 / (place@0 a place@2 b) place@4 c) place@6 d)"},
		{"(a+b)*c", "binary@0 * (binary@1 + (place@1 a place@3 b) place@6 c)"},
		{"((a+b))*c", "binary@0 * (binary@2 + (place@2 a place@4 b) place@8 c)"},
		{"((a)+b)", "binary@1 + (place@2 a place@5 b)"},
		{"-a", "unary@0 - (place@1 a)"},
		{"--a", "unary@0 - (unary@1 - (place@2 a))"},
		{"a--b", "binary@0 - (place@0 a unary@2 - (place@3 b))"},
		{"-a*b", "binary@0 * (unary@0 - (place@1 a) place@3 b)"},
		{"-(a*b)", "unary@0 - (binary@2 * (place@2 a place@4 b))"},
		{"a*-b", "binary@0 * (place@0 a unary@2 - (place@3 b))"},
		{"-a.u", "unary@0 - (place@1 a (name@3 u))"},
		{"-(not a)", "unary@0 - (unary@2 not (place@6 a))"},
		{"true+1", "binary@0 + (truth@0 true number@5 1)"},
		{"(a or b)", "binary@1 or (place@1 a place@6 b)"},
		{"(a < b) + (c)", "binary@0 + (binary@1 < (place@1 a place@5 b) place@11 c)"},
	} {
		wantTree(t, functions[ofExpressions], c.src, c.tree)
		wantTree(t, functions[ofConditions], c.src, c.tree)
	}
}

func TestP9_2Syntax(t *testing.T) {
	for _, marked := range []string{"¦", " # c\n¦", "¦)", "(¦", "(a¦", "(¦)", "((a)¦", "a ¦b", "a ¦1", "1 ¦2", "1 ¦a", "a.¦", "a.¦1", "a.¦if", "a.b¦.c", "1¦.a", "a +¦", "a + ¦)", "a ¦)", "(a¦,b)", "a ¦, b", "¦+ a", "¦* a", "a + ¦* b", "a * ¦/ b", "-¦", "- ¦+ a", "- ¦not a", "a + ¦not b", "a * ¦not b", "¦input", "¦if", "¦else", "¦and", "¦proc", "¦;", "¦{", "¦[", "a¦[1]", "a¦(1)", "a ¦:= b", "a ¦:", "(a = b ¦= c", "true ¦false", "true¦.a", "(a)¦(b)", "(a)¦.u", "(a < b ¦< c)", "(not¦)", "(not a¦", "(a and¦", "(a and ¦or b)"} {
		wantMarked(t, functions[ofExpressions], marked, api.ErrSyntax)
		if !strings.Contains(marked, "not") || strings.HasPrefix(marked, "(") {
			wantMarked(t, functions[ofConditions], marked, api.ErrSyntax)
		}
	}
	for _, marked := range []string{"a ¦< b", "a ¦= b", "a ¦and b", "a ¦or b", "¦not a", "(a) ¦and b", "a ¦>= (b)", "a ¦!= b"} {
		wantMarked(t, functions[ofExpressions], marked, api.ErrSyntax)
		if _, _, e := Cond(strings.ReplaceAll(marked, "¦", "")); e != api.OK {
			t.Errorf("Cond of %q: %d", marked, e)
		}
	}
	for _, marked := range []string{"not ¦", "not ¦and a", "a and¦", "a and ¦or b", "a or¦", "a ¦not b", "a = ¦not b", "a < b ¦> c", "a = b ¦= c", "a < ¦< b", "a < ¦= b", "a <= ¦= b", "a = ¦", "a or b ¦)", "not a ¦b", "a and b ¦;", "a < b ¦{", "a ¦not", "a or ¦input"} {
		wantMarked(t, functions[ofConditions], marked, api.ErrSyntax)
	}
	for _, marked := range []string{"¦", "¦record p {u}", "¦x", "proc f() { } ¦proc g() { }", "import proc f(); ¦import proc f();", "import proc f(); ¦;", "proc f() { }¦}"} {
		wantMarked(t, functions[ofProcedures], marked, api.ErrSyntax)
	}
}

func TestP9_2Levels(t *testing.T) {
	for _, opening := range []string{"(", "-", "(-", "-(", "(a+", "-(b*", "((", "(c - d * -"} {
		closing := strings.Repeat(")", strings.Count(opening, "("))
		levels := strings.Count(opening, "(") + strings.Count(opening, "-") - strings.Count(opening, " - ")
		most := 64 / levels
		for _, f := range functions[2:] {
			src := nested(most, opening, "x", closing)
			if _, at, e := f.parse(src); at != 0 || e != api.OK {
				t.Errorf("%s of %s: %d, %d", f.name, src, at, e)
			}
			if levels*most == 64 {
				wantMarked(t, f, strings.Repeat(opening, most)+"¦(x", api.ErrDeep)
				wantMarked(t, f, strings.Repeat(opening, most)+"¦-x", api.ErrDeep)
				if !strings.HasSuffix(opening, "-") {
					wantMarked(t, f, strings.Repeat(opening, most)+"x + ¦(x", api.ErrDeep)
				}
				wantMarked(t, f, strings.Repeat(opening, most)+"¦)", api.ErrSyntax)
			}
		}
	}
	for _, c := range []struct{ opening, closing string }{{"not ", ""}, {"not (", ")"}, {"(not ", ")"}, {"not not ", ""}} {
		levels := strings.Count(c.opening, "(") + strings.Count(c.opening, "not")
		src := nested(64/levels, c.opening, "x", c.closing)
		if _, at, e := Cond(src); at != 0 || e != api.OK {
			t.Errorf("Cond of %s: %d, %d", src, at, e)
		}
		wantMarked(t, functions[ofConditions], strings.Repeat(c.opening, 64/levels)+"¦not x", api.ErrDeep)
		wantMarked(t, functions[ofConditions], strings.Repeat(c.opening, 64/levels)+"¦-x", api.ErrDeep)
		if strings.HasSuffix(c.opening, "(") {
			wantMarked(t, functions[ofConditions], strings.Repeat(c.opening, 64/levels)+"a = b or ¦(x", api.ErrDeep)
		} else {
			wantMarked(t, functions[ofConditions], strings.Repeat(c.opening, 64/levels)+"a = b or (x¦", api.ErrSyntax)
		}
	}
}

// TestP9_2Long has texts of the greatest length, whose trees are deep without levels.
func TestP9_2Long(t *testing.T) {
	for _, operator := range []string{"+", "*", "-"} {
		src := "a" + strings.Repeat(operator+"a", api.MaxText/2-1) + " "
		for _, f := range functions[2:] {
			tree, at, e := f.parse(src)
			depth := 0
			for x := tree; len(x.Kids) == 2; x = x.Kids[0] {
				depth++
				if x.Kind != api.NodeBinary || x.At != 0 || x.Text != operator || x.Kids[1].At != 2*(api.MaxText/2-depth) {
					t.Fatalf("a node of %s in depth %d: %d, %d, %q", f.name, depth, x.Kind, x.At, x.Text)
				}
			}
			if len(src) != api.MaxText || depth != api.MaxText/2-1 || at != 0 || e != api.OK {
				t.Errorf("%s: depth %d of %d bytes: %d, %d", f.name, depth, len(src), at, e)
			}
			wantError(t, f, src+" ", 0, api.ErrLong)
		}
	}
	src := "proc f(){" + strings.Repeat("f();", (api.MaxText-10)/4)
	tree, _, e := Parse(src + "}")
	if e != api.OK || len(tree.Kids[0].Kids[4].Kids) != (api.MaxText-10)/4 {
		t.Errorf("Parse of many statements: %d", e)
	}
	wantError(t, functions[ofPrograms], src, len(src), api.ErrSyntax)
	wantError(t, functions[ofPrograms], "proc f(){f("+strings.Repeat("a,", 20000), 40011, api.ErrSyntax)
}

// random returns the text and the tree of a random construct, and the offset of the first token that opens too many levels, or -1.
func (f function) random(random *rand.Rand, size int, chains bool) (string, api.Syntax, int) {
	s := newSource(random, size, chains)
	var tree api.Syntax
	switch f.symbol {
	case "program":
		tree = s.program()
	case "procedure":
		tree = s.procedure()
	case "cond":
		tree = s.condition()
	case "expr":
		tree = s.expression()
	}
	src := s.finish()
	if tree.Kind == api.NodeProgram {
		tree.At = len(src)
		if len(tree.Kids) > 0 {
			tree.At = tree.Kids[0].At
		}
	}
	return src, tree, s.deep
}

func TestP9_1Random(t *testing.T) {
	testRandom(t, functions[:1])
}

func TestP9_2Random(t *testing.T) {
	testRandom(t, functions[1:])
}

// testRandom compares trees of random texts with those by which the texts were made.
func testRandom(t *testing.T, list []function) {
	random := rand.New(rand.NewSource(1))
	deep := 0
	for i := range 20000 {
		f := list[i%len(list)]
		src, tree, at := f.random(random, 1+random.Intn(60), i/len(list)%5 == 0)
		if at >= 0 {
			deep++
			wantError(t, f, src, at, api.ErrDeep)
			continue
		}
		wantTree(t, f, src, dump(tree))
	}
	if deep < 100 {
		t.Errorf("only %d texts with too many levels", deep)
	}
}

// changed returns tokens with a change.
func changed(random *rand.Rand, tokens []api.Token) string {
	words := strings.Fields("record proc import returns requires ensures var array if else while assert assume input and or not true false x f 1 7 := != <= >= { } ( ) [ ] , ; : . = < > + - * / %")
	var text []string
	for _, x := range tokens[:len(tokens)-1] {
		text = append(text, x.Text)
	}
	for range 1 + random.Intn(2) {
		i := random.Intn(len(text) + 1)
		word := words[random.Intn(len(words))]
		switch random.Intn(4) {
		case 0:
			text = append(text[:i:i], append([]string{word}, text[i:]...)...)
		case 1:
			text = text[:i]
		case 2:
			if i < len(text) {
				text = append(text[:i:i], text[i+1:]...)
			}
		case 3:
			if i < len(text) {
				text[i] = word
			}
		}
	}
	return strings.Join(text, " ")
}

func TestP9_1Changed(t *testing.T) {
	testChanged(t, functions[:1], 3000)
}

func TestP9_2Changed(t *testing.T) {
	testChanged(t, functions[1:], 9000)
}

// testChanged compares the errors of texts that are nearly right with those by the grammar of the document.
func testChanged(t *testing.T, list []function, count int) {
	random := rand.New(rand.NewSource(2))
	g := readGrammar()
	for i := range count {
		f := list[i%len(list)]
		src, _, _ := f.random(random, 1+random.Intn(40), false)
		tokens, _, _ := lexer.Scan(src)
		if i%10 > 0 {
			src = changed(random, tokens)
			tokens, _, _ = lexer.Scan(src)
		}
		if len(tokens) > 300 {
			continue
		}
		_, at, e := f.parse(src)
		if e == api.ErrDeep || e == api.ErrRange {
			continue
		}
		bad := g.firstBad(f.symbol, tokens)
		if bad < 0 && (at != 0 || e != api.OK) || bad >= 0 && (at != tokens[bad].At || e != api.ErrSyntax) {
			t.Errorf("%s of %q: got %d, %d, want the token %d", f.name, src, at, e, bad)
		}
	}
}

// TestP9_3Blanks has the same tokens with other blanks and comments.
func TestP9_3Blanks(t *testing.T) {
	random := rand.New(rand.NewSource(3))
	for i := range 2000 {
		f := functions[i%len(functions)]
		src, tree, deep := f.random(random, 40, false)
		tokens, _, _ := lexer.Scan(src)
		joined, e := lexer.Join(tokens)
		stripped, g := lexer.Strip(src)
		if deep >= 0 || e != api.OK || g != api.OK {
			continue
		}
		for _, text := range []string{joined, stripped, "#\n" + src + "\n#"} {
			if got, _, e := f.parse(text); e != api.OK || shape(got) != shape(tree) {
				t.Errorf("%s of %q: %d, %s", f.name, text, e, shape(got))
			}
		}
	}
}

func TestP9_3Parentheses(t *testing.T) {
	random := rand.New(rand.NewSource(4))
	for range 2000 {
		src, tree, deep := functions[ofConditions].random(random, 20, false)
		if deep >= 0 {
			continue
		}
		for _, text := range []string{"(" + src + "\n)", "((" + src + "\n))"} {
			for _, f := range functions[2:] {
				if got, _, e := f.parse(text); e != api.OK || shape(got) != shape(tree) {
					t.Errorf("%s of %q: %d, %s", f.name, text, e, shape(got))
				}
			}
		}
	}
}

func TestP9_3Programs(t *testing.T) {
	random := rand.New(rand.NewSource(5))
	for range 1000 {
		a, x, d := functions[ofPrograms].random(random, 40, false)
		b, y, g := functions[ofPrograms].random(random, 40, false)
		if d >= 0 || g >= 0 {
			continue
		}
		got, _, e := Parse(a + "\n" + b)
		both := api.Syntax{Kind: api.NodeProgram, Kids: append(x.Kids, y.Kids...)}
		if e != api.OK || shape(got) != shape(both) {
			t.Errorf("Parse of %q: %d, %s", a+"\n"+b, e, shape(got))
		}
	}
}

// TestP9_3Beginnings has procedures without their last tokens.
func TestP9_3Beginnings(t *testing.T) {
	random := rand.New(rand.NewSource(6))
	for range 1000 {
		src, _, deep := functions[ofProcedures].random(random, 40, false)
		tokens, _, _ := lexer.Scan(src)
		if deep >= 0 {
			continue
		}
		last := tokens[len(tokens)-2].At
		wantError(t, functions[ofProcedures], src[:last], last, api.ErrSyntax)
	}
}

// TestP9_3Offsets has names and numbers at the offsets of their nodes.
func TestP9_3Offsets(t *testing.T) {
	random := rand.New(rand.NewSource(7))
	for i := range 2000 {
		f := functions[i%len(functions)]
		src, _, _ := f.random(random, 60, false)
		tree, _, e := f.parse(src)
		if e != api.OK {
			continue
		}
		pending := []api.Syntax{tree}
		for len(pending) > 0 {
			x := pending[0]
			pending = append(pending[1:], x.Kids...)
			switch x.Kind {
			case api.NodeRecord, api.NodeProc, api.NodeArray, api.NodeBinary:
			default:
				if !strings.HasPrefix(src[x.At:], x.Text) {
					t.Errorf("%q: %s at %d", src, dump(x), x.At)
				}
			}
		}
	}
}

// TestBytes has any texts for all functions (P1).
func TestBytes(t *testing.T) {
	random := rand.New(rand.NewSource(8))
	for range 20000 {
		text := make([]byte, random.Intn(20))
		for i := range text {
			text[i] = "(){}[],;:=.x1-+ <\x00\xff#"[random.Intn(20)]
		}
		for _, f := range functions {
			tree, at, e := f.parse(string(text))
			if at < 0 || at > len(text) || e == api.OK && at != 0 || e != api.OK && dump(tree) != dump(api.Syntax{}) {
				t.Errorf("%s of %q: %s, %d, %d", f.name, text, dump(tree), at, e)
			}
		}
	}
}
