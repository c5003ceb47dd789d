package printer

import (
	"math/rand"
	"slices"
	"strings"
	"testing"

	"surveyor/api"
	"surveyor/lexer"
	"surveyor/parser"
)

// function is one of the functions that return texts, with the place in which its trees stand, and what reads them.
type function struct {
	name, place string
	write       func(api.Syntax) (string, api.Errno)
	read        func(string) (api.Syntax, int, api.Errno)
}

var functions = []function{{"Format", "Program", Format, parser.Parse}, {"Proc", "Proc", Proc, parser.Proc}, {"Cond", "Cond", Cond, parser.Cond}, {"Expr", "Cond", Expr, parser.Expr}}

// tree returns the tree of a text.
func (f function) tree(t *testing.T, src string) api.Syntax {
	t.Helper()
	tree, at, e := f.read(src)
	if e != api.OK {
		t.Fatalf("%.200q has no tree: %d, %d", src, at, e)
	}
	return tree
}

// wantText checks the text of the tree of a text.
func wantText(t *testing.T, f function, src, text string) {
	t.Helper()
	got, e := f.write(f.tree(t, src))
	want(t, f.name+" of "+src, got, text, e, api.OK)
}

// The indices of the functions.
const (
	ofPrograms = iota
	ofProcedures
	ofConditions
	ofExpressions
)

func TestP10_1Examples(t *testing.T) {
	wantText(t, functions[ofPrograms], "record p{u,v}proc f(x:p){var y;if x.u<0{y:=f(x);}else{g();}}", `record p { u, v }
proc f(x : p) {
  var y;
  if x.u < 0 {
    y := f(x);
  } else {
    g();
  }
}
`)
}

// TestP10_1Lines has all forms of lines.
func TestP10_1Lines(t *testing.T) {
	for _, c := range []struct{ src, text string }{
		{"", ""},
		{"# nothing", ""},
		{"record p{u}record q{u,v , w}", "record p { u }\nrecord q { u, v, w }\n"},
		{"import proc f();import proc g(a)returns(b)requires(c)ensures(d=e);", "import proc f();\nimport proc g(a) returns (b) requires c ensures d = e;\n"},
		{"proc f(){}", "proc f() {\n}\n"},
		{"proc f(a:p,b)returns(c,d:q)requires a<b and(b<c or c)ensures-a<1{}", "proc f(a : p, b) returns (c, d : q) requires a < b and (b < c or c) ensures -a < 1 {\n}\n"},
		{"proc f()ensures not(a){}", "proc f() ensures not a {\n}\n"},
		{"proc f()returns(a){}", "proc f() returns (a) {\n}\n"},
		{"proc f(){var a;var b:p,c;array d[0];array e[1048576];}", "proc f() {\n  var a;\n  var b : p, c;\n  array d[0];\n  array e[1048576];\n}\n"},
		{"proc f(){x:=1;x.u,y:=input;x:=a[(i+1)];x:=f();x,y.v:=g(1,(a<b),(c)+d);}", "proc f() {\n  x := 1;\n  x.u, y := input;\n  x := a[i + 1];\n  x := f();\n  x, y.v := g(1, (a < b), c + d);\n}\n"},
		{"proc f(){x:=(a or b);x:=(input1);x:=(y.u);x:=(not true);x:=-y;}", "proc f() {\n  x := (a or b);\n  x := input1;\n  x := y.u;\n  x := (not true);\n  x := -y;\n}\n"},
		{"proc f(){f();f(1);f(a,b.u);}", "proc f() {\n  f();\n  f(1);\n  f(a, b.u);\n}\n"},
		{"proc f(){a[i]:=1;a[(i and j)]:=(b>=c);a[a]:=-a;}", "proc f() {\n  a[i] := 1;\n  a[(i and j)] := (b >= c);\n  a[a] := -a;\n}\n"},
		{"proc f(){if a{}}", "proc f() {\n  if a {\n  }\n}\n"},
		{"proc f(){if a{}else{}}", "proc f() {\n  if a {\n  } else {\n  }\n}\n"},
		{"proc f(){if a{f();}else if b{g();}else if c{h();}else{i();}f();}", "proc f() {\n  if a {\n    f();\n  } else if b {\n    g();\n  } else if c {\n    h();\n  } else {\n    i();\n  }\n  f();\n}\n"},
		{"proc f(){if a{}else{if b{}else{}}}", "proc f() {\n  if a {\n  } else {\n    if b {\n    } else {\n    }\n  }\n}\n"},
		{"proc f(){while(a)<b{while true{assert(a);}assume(b or c);}}", "proc f() {\n  while a < b {\n    while true {\n      assert a;\n    }\n    assume b or c;\n  }\n}\n"},
		{"proc f(){if a{while b{if c{}else if d{f();}}}}proc g(){}", "proc f() {\n  if a {\n    while b {\n      if c {\n      } else if d {\n        f();\n      }\n    }\n  }\n}\nproc g() {\n}\n"},
	} {
		wantText(t, functions[ofPrograms], c.src, c.text)
		if strings.HasPrefix(c.src, "proc") && strings.Count(c.src, "proc") == 1 {
			wantText(t, functions[ofProcedures], c.src, c.text)
		}
	}
	wantText(t, functions[ofProcedures], "import proc f(a)returns(b);", "import proc f(a) returns (b);\n")
}

func TestP10_2Examples(t *testing.T) {
	wantText(t, functions[ofExpressions], "a-(b-c)*-d", "a - (b - c) * -d")
	wantText(t, functions[ofConditions], "not (a = b)and(c or d)", "not a = b and (c or d)")
}

// TestP10_2Texts has conditions and expressions; the text of an expression is given where it is another one.
func TestP10_2Texts(t *testing.T) {
	for _, c := range [][]string{
		{"a", "a"}, {"((a))", "a"}, {"a . u", "a.u"}, {"0", "0"}, {"true", "true"}, {"(false)", "false"},
		{"a or b", "a or b", "(a or b)"}, {"a or (b or c)", "a or (b or c)", "(a or (b or c))"}, {"(a or b) or c", "a or b or c", "(a or b or c)"}, {"a and (b and c)", "a and (b and c)", "(a and (b and c))"}, {"(a and b) and c", "a and b and c", "(a and b and c)"}, {"(a or b) and (c or d)", "(a or b) and (c or d)", "((a or b) and (c or d))"}, {"(a and b) or (c and d)", "a and b or c and d", "(a and b or c and d)"},
		{"not(a)", "not a", "(not a)"}, {"not(not(a))", "not not a", "(not not a)"}, {"not(a and b)", "not (a and b)", "(not (a and b))"}, {"(not a)and(not b)", "not a and not b", "(not a and not b)"}, {"not(a<b)", "not a < b", "(not a < b)"}, {"(not a)<b", "(not a) < b", "((not a) < b)"}, {"a=(not b)", "a = (not b)", "(a = (not b))"}, {"(not a)or b", "not a or b", "(not a or b)"},
		{"(a<b)=(c>d)", "(a < b) = (c > d)", "((a < b) = (c > d))"}, {"(a<b)<c", "(a < b) < c", "((a < b) < c)"}, {"a<=(b>=c)", "a <= (b >= c)", "(a <= (b >= c))"}, {"(a+b)!=(c*d)", "a + b != c * d", "(a + b != c * d)"}, {"(a and b)=c", "(a and b) = c", "((a and b) = c)"},
		{"(a+b)+c", "a + b + c"}, {"a+(b+c)", "a + (b + c)"}, {"a-(b+c)", "a - (b + c)"}, {"(a-b)+c", "a - b + c"}, {"a+(b*c)", "a + b * c"}, {"(a+b)*c", "(a + b) * c"}, {"a*(b+c)", "a * (b + c)"}, {"a*(b*c)", "a * (b * c)"}, {"(a*b)*c", "a * b * c"}, {"a/(b%c)", "a / (b % c)"}, {"(a/b)%c", "a / b % c"}, {"a%(b-c)", "a % (b - c)"}, {"(a*b)-(c/d)", "a * b - c / d"},
		{"-(a)", "-a"}, {"-(-(a))", "--a"}, {"-(a+b)", "-(a + b)"}, {"-(a*b)", "-(a * b)"}, {"(-a)*b", "-a * b"}, {"a*(-b)", "a * -b"}, {"a-(-b)", "a - -b"}, {"(-a)-b", "-a - b"}, {"-(1)", "-1"}, {"-(a.u)", "-a.u"}, {"-(not a)", "-(not a)"}, {"-(a or b)", "-(a or b)"}, {"-(a<b)", "-(a < b)"}, {"-(-a+b)", "-(-a + b)"},
		{"(a or b)+c", "(a or b) + c"}, {"a+(b<c)", "a + (b < c)"}, {"a*(not b)", "a * (not b)"}, {"(true)+(1)", "true + 1"},
	} {
		wantText(t, functions[ofConditions], c[0], c[1])
		wantText(t, functions[ofExpressions], "("+c[0]+")", c[len(c)-1])
	}
}

// node returns a node of a tree: the kid with the first index, the kid of it with the second one, and so on.
func node(t *api.Syntax, path ...int) *api.Syntax {
	for _, i := range path {
		t = &t.Kids[i]
	}
	return t
}

const sample = `record p { u }
proc f(a : p, b) returns (c) requires a.u < 1 {
  var x : p, y;
  array d[3];
  y := input;
  y := d[1 + y];
  y, y := f(x, 2);
  f();
  d[y] := true;
  if not y = 1 { } else if -y > 2 { } else { assert y; }
  while y { assume y; }
  y := 1;
}
import proc g();
`

// TestP10_1Faults changes one node of a program.
func TestP10_1Faults(t *testing.T) {
	long := strings.Repeat("n", 25)
	kind := func(k int) func(*api.Syntax) { return func(x *api.Syntax) { x.Kind = k } }
	text := func(s string) func(*api.Syntax) { return func(x *api.Syntax) { x.Text = s } }
	num := func(n int) func(*api.Syntax) { return func(x *api.Syntax) { x.Num = n } }
	keep := func(n int) func(*api.Syntax) { return func(x *api.Syntax) { x.Kids = x.Kids[:n] } }
	more := func(k int, s string) func(*api.Syntax) {
		return func(x *api.Syntax) { x.Kids = append(slices.Clone(x.Kids), api.Syntax{Kind: k, Text: s}) }
	}
	for i, c := range []struct {
		path   []int
		change func(*api.Syntax)
		e      api.Errno
	}{
		{nil, kind(api.NodeProc), api.ErrArg}, {nil, kind(-1), api.ErrArg}, {nil, kind(24), api.ErrArg}, {nil, text("x"), api.ErrForm}, {nil, num(1), api.ErrForm}, {nil, more(api.NodeName, "x"), api.ErrArg}, {nil, more(api.NodeProgram, ""), api.ErrArg}, {nil, keep(0), api.OK}, {nil, more(api.NodeRecord, "p"), api.ErrShape},
		{[]int{0}, kind(api.NodeProc), api.ErrShape}, {[]int{0}, keep(0), api.ErrShape}, {[]int{0}, text(""), api.ErrName}, {[]int{0}, text("if"), api.ErrName}, {[]int{0}, text(long), api.ErrName}, {[]int{0}, text("p.q"), api.ErrName}, {[]int{0}, num(1), api.ErrForm}, {[]int{0}, more(api.NodeParam, "x"), api.ErrArg}, {[]int{0, 0}, text("1"), api.ErrName}, {[]int{0, 0}, more(api.NodeName, "x"), api.ErrShape}, {[]int{0, 0}, num(-1), api.ErrForm}, {[]int{0, 0}, kind(api.NodePlace), api.ErrArg},
		{[]int{1}, keep(3), api.ErrShape}, {[]int{1}, keep(4), api.OK}, {[]int{1}, more(api.NodeBlock, ""), api.ErrShape}, {[]int{2}, more(api.NodeBlock, ""), api.OK}, {[]int{2}, more(api.NodeList, ""), api.ErrArg}, {[]int{1}, text("a b"), api.ErrName}, {[]int{1}, num(7), api.ErrForm}, {[]int{1}, kind(api.NodeBlock), api.ErrArg},
		{[]int{1, 0}, keep(0), api.OK}, {[]int{1, 0}, text("x"), api.ErrForm}, {[]int{1, 0}, kind(api.NodeWhen), api.ErrArg}, {[]int{1, 0}, more(api.NodePlace, "x"), api.ErrArg}, {[]int{1, 0}, num(2), api.ErrForm}, {[]int{1, 1}, keep(0), api.OK}, {[]int{1, 1}, more(api.NodeName, "x"), api.ErrArg}, {[]int{1, 0, 0}, more(api.NodeName, "x"), api.ErrShape}, {[]int{1, 0, 0}, keep(0), api.OK}, {[]int{1, 0, 1}, more(api.NodeName, "proc"), api.ErrName}, {[]int{1, 0, 1}, more(api.NodePlace, "x"), api.ErrArg}, {[]int{1, 0, 1}, text("true"), api.ErrName},
		{[]int{1, 2}, keep(0), api.OK}, {[]int{1, 2}, more(api.NodePlace, "x"), api.ErrShape}, {[]int{1, 2}, text("requires"), api.ErrForm}, {[]int{1, 3}, more(api.NodeTruth, "true"), api.OK}, {[]int{1, 3}, more(api.NodeInput, ""), api.ErrArg}, {[]int{1, 3}, more(api.NodeCall, "f"), api.ErrArg}, {[]int{1, 3}, kind(api.NodeList), api.ErrArg}, {[]int{1, 4}, kind(api.NodeIf), api.ErrArg}, {[]int{1, 4}, text("{"), api.ErrForm}, {[]int{1, 4}, keep(0), api.OK}, {[]int{1, 4}, more(api.NodeVar, ""), api.ErrArg}, {[]int{1, 4}, more(api.NodeArray, "x"), api.ErrArg}, {[]int{1, 4}, more(api.NodeBlock, ""), api.ErrArg}, {[]int{1, 4}, more(api.NodeCall, "f"), api.ErrArg},
		{[]int{1, 4, 0}, keep(0), api.ErrShape}, {[]int{1, 4, 0}, text("x"), api.ErrForm}, {[]int{1, 4, 0}, more(api.NodeName, "x"), api.ErrArg}, {[]int{1, 4, 1}, num(0), api.OK}, {[]int{1, 4, 1}, num(1048576), api.OK}, {[]int{1, 4, 1}, num(1048577), api.ErrForm}, {[]int{1, 4, 1}, num(-1), api.ErrForm}, {[]int{1, 4, 1}, text(""), api.ErrName}, {[]int{1, 4, 1}, more(api.NodeNumber, "1"), api.ErrShape},
		{[]int{1, 4, 2}, keep(1), api.ErrShape}, {[]int{1, 4, 2}, more(api.NodeInput, ""), api.ErrShape}, {[]int{1, 4, 2}, text(":="), api.ErrForm}, {[]int{1, 4, 2}, kind(api.NodeStore), api.ErrName}, {[]int{1, 4, 2, 0}, keep(0), api.ErrArg}, {[]int{1, 4, 2, 0}, more(api.NodeParam, "x"), api.ErrArg}, {[]int{1, 4, 2, 0}, more(api.NodeNumber, "1"), api.ErrArg}, {[]int{1, 4, 2, 0}, kind(api.NodePlace), api.ErrArg}, {[]int{1, 4, 2, 1}, text("input"), api.ErrForm}, {[]int{1, 4, 2, 1}, more(api.NodePlace, "x"), api.ErrShape}, {[]int{1, 4, 2, 1}, kind(api.NodeList), api.ErrArg}, {[]int{1, 4, 2, 1}, kind(api.NodeCall), api.ErrName},
		{[]int{1, 4, 3, 0}, keep(0), api.ErrArg}, {[]int{1, 4, 3, 1}, keep(0), api.ErrShape}, {[]int{1, 4, 3, 1}, more(api.NodePlace, "x"), api.ErrShape}, {[]int{1, 4, 3, 1}, text(""), api.ErrName}, {[]int{1, 4, 4, 0}, keep(0), api.OK}, {[]int{1, 4, 4, 1}, keep(0), api.OK}, {[]int{1, 4, 4, 1}, more(api.NodeInput, ""), api.ErrArg}, {[]int{1, 4, 4, 1}, more(api.NodeList, ""), api.ErrArg}, {[]int{1, 4, 4, 1}, text("assert"), api.ErrName}, {[]int{1, 4, 5, 1}, kind(api.NodeInput), api.ErrArg}, {[]int{1, 4, 5, 1}, kind(api.NodePlace), api.ErrArg}, {[]int{1, 4, 5, 0}, more(api.NodePlace, "x"), api.OK},
		{[]int{1, 4, 6}, keep(1), api.ErrShape}, {[]int{1, 4, 6}, text("1"), api.ErrName}, {[]int{1, 4, 6, 1}, kind(api.NodeInput), api.ErrArg}, {[]int{1, 4, 6, 1}, text("1"), api.ErrForm}, {[]int{1, 4, 6, 1}, text(""), api.ErrForm}, {[]int{1, 4, 6, 1}, more(api.NodeTruth, "true"), api.ErrShape},
		{[]int{1, 4, 7}, keep(1), api.ErrShape}, {[]int{1, 4, 7}, keep(2), api.OK}, {[]int{1, 4, 7}, more(api.NodeBlock, ""), api.ErrShape}, {[]int{1, 4, 7}, text("if"), api.ErrForm}, {[]int{1, 4, 7, 0}, text("!"), api.ErrForm}, {[]int{1, 4, 7, 0}, text("+"), api.ErrForm}, {[]int{1, 4, 7, 0}, text("-"), api.OK}, {[]int{1, 4, 7, 0}, more(api.NodePlace, "x"), api.ErrShape}, {[]int{1, 4, 7, 0}, keep(0), api.ErrShape}, {[]int{1, 4, 7, 0, 0}, keep(1), api.ErrShape}, {[]int{1, 4, 7, 0, 0}, text("not"), api.ErrForm}, {[]int{1, 4, 7, 0, 0}, text("=="), api.ErrForm}, {[]int{1, 4, 7, 0, 0}, text(":="), api.ErrForm}, {[]int{1, 4, 7, 0, 0}, text("or"), api.OK}, {[]int{1, 4, 7, 0, 0}, num(1), api.ErrForm}, {[]int{1, 4, 7, 0, 0, 1}, text("01"), api.ErrForm}, {[]int{1, 4, 7, 0, 0, 1}, text("-1"), api.ErrForm}, {[]int{1, 4, 7, 0, 0, 1}, text(strings.Repeat("1", 101)), api.ErrForm}, {[]int{1, 4, 7, 0, 0, 1}, num(1), api.ErrForm},
		{[]int{1, 4, 7, 1}, kind(api.NodeIf), api.ErrArg}, {[]int{1, 4, 7, 1}, more(api.NodeVar, ""), api.ErrArg}, {[]int{1, 4, 7, 2}, kind(api.NodeWhile), api.ErrArg}, {[]int{1, 4, 7, 2}, kind(api.NodeBlock), api.ErrArg}, {[]int{1, 4, 7, 2, 2}, more(api.NodeArray, "x"), api.ErrArg}, {[]int{1, 4, 7, 2, 2, 0}, keep(0), api.ErrShape}, {[]int{1, 4, 7, 2, 2, 0}, text("x"), api.ErrForm},
		{[]int{1, 4, 8}, keep(1), api.ErrShape}, {[]int{1, 4, 8}, more(api.NodeBlock, ""), api.ErrShape}, {[]int{1, 4, 8}, kind(api.NodeIf), api.OK}, {[]int{1, 4, 8, 1}, more(api.NodeVar, ""), api.ErrArg}, {[]int{1, 4, 8, 1, 0}, more(api.NodePlace, "x"), api.ErrShape}, {[]int{1, 4, 8, 1, 0}, kind(api.NodeAssert), api.OK}, {[]int{1, 4, 8, 1, 0, 0}, kind(api.NodeName), api.ErrArg}, {[]int{1, 4, 9, 1}, kind(api.NodeTruth), api.ErrForm}, {[]int{1, 4, 9, 1}, kind(api.NodeLoad), api.ErrShape},
	} {
		tree := functions[ofPrograms].tree(t, sample)
		c.change(node(&tree, c.path...))
		e := Check(tree)
		text, f := Format(tree)
		if e != c.e || f != c.e || (text == "") != (f != api.OK || len(tree.Kids) == 0) {
			t.Errorf("fault %d at %v: Check %d, Format %q, %d, want %d", i, c.path, e, text, f, c.e)
		}
	}
}

// TestP10_1Kinds has each kind in each place of a program.
func TestP10_1Kinds(t *testing.T) {
	all := readForms()
	tree := functions[ofPrograms].tree(t, sample)
	for _, x := range nodes(&tree) {
		kind := x.Kind
		for x.Kind = -2; x.Kind < 32; x.Kind++ {
			want(t, "Check", Check(tree), all.check(tree, "Program"), 0, 0)
			for _, f := range functions[1:] {
				text, e := f.write(*x)
				if wanted := all.check(*x, f.place); e != wanted || (text == "") != (e != api.OK) {
					t.Errorf("%s of the kind %d: %q, %d, want %d", f.name, x.Kind, text, e, wanted)
				}
			}
		}
		for _, x.Kind = range []int{1 << 31, 1 << 32, 64 + kind, -64 + kind, 1 << 62, -1 << 63} {
			want(t, "Check", Check(tree), api.ErrArg, 0, 0)
		}
		x.Kind = kind
	}
	want(t, "Check", Check(tree), api.OK, 0, 0)
}

// TestP10_1First has two errors, of which the first one in preorder counts.
func TestP10_1First(t *testing.T) {
	for _, c := range []struct {
		first, second []int
	}{{[]int{}, []int{0}}, {[]int{0}, []int{0, 0}}, {[]int{0, 0}, []int{1}}, {[]int{1, 0, 0, 0}, []int{1, 0, 1}}, {[]int{1, 2, 0, 0, 0}, []int{1, 2, 0, 1}}, {[]int{1, 4, 3, 1, 0, 0}, []int{1, 4, 4}}, {[]int{1, 4, 7}, []int{1, 4, 7, 2, 2, 0, 0}}, {[]int{1, 4, 7, 2, 2, 0, 0}, []int{2}}} {
		tree := functions[ofPrograms].tree(t, sample)
		node(&tree, c.second...).Kind = 99
		want(t, "the second alone", Check(tree), api.ErrArg, 0, 0)
		node(&tree, c.first...).Num = -1
		want(t, "both", Check(tree), api.ErrForm, 0, 0)
	}
	// All errors of one node, in their order.
	tree := api.Syntax{Kind: api.NodeProgram, Kids: []api.Syntax{{Kind: api.NodeName, Text: "if", Num: 1}}}
	x := &tree.Kids[0]
	want(t, "a kind", Check(tree), api.ErrArg, 0, 0)
	x.Kind = api.NodeRecord
	want(t, "no kids", Check(tree), api.ErrShape, 0, 0)
	x.Kids = []api.Syntax{{Kind: 99}}
	want(t, "a text", Check(tree), api.ErrName, 0, 0)
	x.Text = "p"
	want(t, "a number", Check(tree), api.ErrForm, 0, 0)
	x.Num = 0
	want(t, "a kid", Check(tree), api.ErrArg, 0, 0)
}

func TestP10_1Random(t *testing.T) {
	testRandom(t, functions[:1])
}

func TestP10_2Random(t *testing.T) {
	testRandom(t, functions[1:])
}

// testRandom compares results for random trees, with and without faults, with those by the document.
func testRandom(t *testing.T, list []function) {
	random := rand.New(rand.NewSource(1))
	all := readForms()
	counts := map[api.Errno]int{}
	for i := range 20000 {
		f := list[i%len(list)]
		size := 1 + random.Intn(40)
		tree := all.random(random, f.place, &size)
		for range random.Intn(3) {
			fault(random, &tree)
		}
		before := shape(tree)
		wanted := all.check(tree, f.place)
		counts[wanted]++
		if f.name == "Format" {
			want(t, "Check of "+before, Check(tree), wanted, 0, 0)
		}
		text, e := f.write(tree)
		if shape(tree) != before {
			t.Fatalf("%s changed %s", f.name, before)
		}
		want(t, f.name+" of "+before, "", "", e, wanted)
		if e != api.OK {
			want(t, f.name+" of "+before, text, "", 0, 0)
			continue
		}
		// The text has the tree, and the blanks that the document says.
		got, at, e := f.read(text)
		want(t, f.name+" of "+before, []any{shape(got), at}, []any{before, 0}, e, api.OK)
		tokens, _, _ := lexer.Scan(text)
		lines := layout(tokens)
		if f.place == "Cond" {
			lines = strings.TrimSuffix(lines, "\n")
		}
		want(t, f.name+" of "+before, text, lines, 0, 0)
	}
	if len(counts) != 5 {
		t.Errorf("not all errors: %v", counts)
	}
}

// TestP10_3Parentheses leaves out each pair of parentheses that is in a text.
func TestP10_3Parentheses(t *testing.T) {
	random := rand.New(rand.NewSource(2))
	all := readForms()
	count := 0
	for i := range 8000 {
		f := functions[i%len(functions)]
		size := 1 + random.Intn(40)
		tree := all.random(random, f.place, &size)
		text, e := f.write(tree)
		if e != api.OK {
			t.Fatalf("%s: %d", shape(tree), e)
		}
		for at := range text {
			if text[at] != '(' {
				continue
			}
			end, depth := at, 1
			for depth > 0 {
				end++
				depth += strings.Count(text[end:end+1], "(") - strings.Count(text[end:end+1], ")")
			}
			shorter := text[:at] + " " + text[at+1:end] + " " + text[end+1:]
			count++
			if got, _, e := f.read(shorter); e == api.OK && shape(got) == shape(tree) {
				t.Errorf("%s of %s has parentheses that it needs not: %q", f.name, shape(tree), text)
			}
		}
	}
	t.Logf("%d pairs", count)
}

// TestP10_3Tokens has texts with more tokens than their trees need, and the expressions of conditions.
func TestP10_3Tokens(t *testing.T) {
	random := rand.New(rand.NewSource(3))
	all := readForms()
	for range 3000 {
		size := 1 + random.Intn(30)
		tree := all.random(random, "Cond", &size)
		src := parenthesized(random, tree)
		got, _, e := parser.Cond(src)
		if e != api.OK {
			continue // too deep
		}
		want(t, "Cond of "+src, shape(got), shape(tree), 0, 0)
		text, e := Cond(got)
		before, _, _ := lexer.Scan(src)
		after, _, _ := lexer.Scan(text)
		if len(after) > len(before) || e != api.OK {
			t.Errorf("the text of %q is %q, %d", src, text, e)
		}
		expression, e := Expr(got)
		if !slices.ContainsFunc(nodes(&got), isOfConditions) {
			want(t, "Expr of "+src, expression, text, e, api.OK)
		}
	}
}

// isOfConditions reports whether a node is an operator of conditions.
func isOfConditions(t *api.Syntax) bool {
	return t.Text == "not" || t.Kind == api.NodeBinary && !strings.Contains("+-*/%", t.Text)
}

// parenthesized returns a text of a condition with parentheses around each operand with operators, and some more.
func parenthesized(random *rand.Rand, t api.Syntax) string {
	text := t.Text
	switch t.Kind {
	case api.NodePlace:
		if len(t.Kids) > 0 {
			text += "." + t.Kids[0].Text
		}
	case api.NodeUnary:
		text = "(" + t.Text + " " + parenthesized(random, t.Kids[0]) + ")"
	case api.NodeBinary:
		text = "(" + parenthesized(random, t.Kids[0]) + t.Text + " " + parenthesized(random, t.Kids[1]) + ")"
		text = strings.ReplaceAll(strings.ReplaceAll(text, "and ", " and "), "or ", " or ")
	}
	if random.Intn(4) == 0 {
		text = "(" + text + ")"
	}
	return text
}

func place(name string) api.Syntax {
	return api.Syntax{Kind: api.NodePlace, Text: name}
}

func unary(operator string, x api.Syntax) api.Syntax {
	return api.Syntax{Kind: api.NodeUnary, Text: operator, Kids: []api.Syntax{x}}
}

func binary(operator string, x, y api.Syntax) api.Syntax {
	return api.Syntax{Kind: api.NodeBinary, Text: operator, Kids: []api.Syntax{x, y}}
}

func block(list ...api.Syntax) api.Syntax {
	return api.Syntax{Kind: api.NodeBlock, Kids: list}
}

// procedure returns a procedure with a block.
func procedure(b api.Syntax) api.Syntax {
	return api.Syntax{Kind: api.NodeProc, Text: "f", Kids: []api.Syntax{{Kind: api.NodeList}, {Kind: api.NodeList}, {Kind: api.NodeWhen}, {Kind: api.NodeWhen}, b}}
}

func program(list ...api.Syntax) api.Syntax {
	return api.Syntax{Kind: api.NodeProgram, Kids: list}
}

// repeat applies a function so many times.
func repeat(n int, x api.Syntax, f func(api.Syntax) api.Syntax) api.Syntax {
	for range n {
		x = f(x)
	}
	return x
}

// wantErrors checks the results of all functions for a condition, alone or in an assertion.
func wantErrors(t *testing.T, what string, x api.Syntax, cond, expr, proc api.Errno) {
	t.Helper()
	_, e := Cond(x)
	want(t, "Cond of "+what, e, cond, 0, 0)
	_, e = Expr(x)
	want(t, "Expr of "+what, e, expr, 0, 0)
	f := procedure(block(api.Syntax{Kind: api.NodeAssert, Kids: []api.Syntax{x}}))
	_, e = Proc(f)
	want(t, "Proc of "+what, e, proc, 0, 0)
	_, e = Format(program(f))
	want(t, "Format of "+what, e, proc, 0, 0)
	want(t, "Check of "+what, Check(program(f)), api.OK, 0, 0)
}

// TestP10_2Levels has texts that open as many levels as there may be, and one more.
func TestP10_2Levels(t *testing.T) {
	a := place("a")
	for _, c := range []struct {
		what  string
		apply func(api.Syntax) api.Syntax
		least int // so many of them open no level
		outer int // so many levels more has the text of an expression
	}{
		{"-", func(x api.Syntax) api.Syntax { return unary("-", x) }, 0, 0},
		{"not", func(x api.Syntax) api.Syntax { return unary("not", x) }, 0, 1},
		{"a - ( )", func(x api.Syntax) api.Syntax { return binary("-", a, x) }, 1, 0},
		{"a or ( )", func(x api.Syntax) api.Syntax { return binary("or", a, x) }, 1, 1},
		{"( ) = a", func(x api.Syntax) api.Syntax { return binary("=", x, a) }, 1, 1},
	} {
		for n := 62; n <= 66; n++ {
			x := repeat(c.least+n, a, c.apply)
			wantErrors(t, c.what, x, errorOf(n), errorOf(n+c.outer), errorOf(n+1))
		}
	}
	// Without levels, any depth.
	for _, operator := range []string{"+", "*", "or", "and"} {
		x := repeat(5000, a, func(x api.Syntax) api.Syntax { return binary(operator, x, a) })
		wantErrors(t, operator, x, api.OK, api.OK, api.OK)
	}
}

// errorOf is the error of a text that opens so many levels.
func errorOf(levels int) api.Errno {
	if levels > api.MaxNodes {
		return api.ErrDeep
	}
	return api.OK
}

// TestP10_1Levels nests statements.
func TestP10_1Levels(t *testing.T) {
	a := place("a")
	while := func(x api.Syntax) api.Syntax {
		return block(api.Syntax{Kind: api.NodeWhile, Kids: []api.Syntax{a, x}})
	}
	choice := func(x api.Syntax) api.Syntax {
		return api.Syntax{Kind: api.NodeIf, Kids: []api.Syntax{a, block(), x}}
	}
	for _, c := range []struct {
		what string
		n    int
		tree api.Syntax
		e    api.Errno
	}{
		{"while", 63, repeat(63, block(), while), api.OK}, {"while", 64, repeat(64, block(), while), api.ErrDeep},
		{"else", 63, repeat(63, block(), func(x api.Syntax) api.Syntax { return block(choice(x)) }), api.OK}, {"else", 64, repeat(64, block(), func(x api.Syntax) api.Syntax { return block(choice(x)) }), api.ErrDeep},
		{"else if", 62, block(repeat(62, choice(block()), choice)), api.OK}, {"else if", 63, block(repeat(63, choice(block()), choice)), api.ErrDeep},
	} {
		_, e := Format(program(procedure(c.tree)))
		want(t, c.what, e, c.e, 0, 0)
		_, e = Proc(procedure(c.tree))
		want(t, c.what, e, c.e, 0, 0)
		want(t, c.what, Check(program(procedure(c.tree))), api.OK, 0, 0)
	}
	// A text that is too long is not too deep.
	x := repeat(1000, block(), while)
	_, e := Format(program(procedure(x)))
	want(t, "a long text", e, api.ErrLong, 0, 0)
}

// sized returns a sum whose text has a number of bytes.
func sized(n int) api.Syntax {
	x := place(strings.Repeat("n", 4+n%4))
	return repeat((n-len(x.Text))/4, x, func(x api.Syntax) api.Syntax { return binary("+", x, place("a")) })
}

// TestP10_2Long has texts of the greatest length, and one byte more.
func TestP10_2Long(t *testing.T) {
	for n := api.MaxText - 2; n <= api.MaxText+2; n++ {
		x := sized(n)
		for _, f := range functions[2:] {
			text, e := f.write(x)
			if n > api.MaxText {
				want(t, f.name, text, "", e, api.ErrLong)
			} else {
				want(t, f.name, len(text), n, e, api.OK)
			}
		}
		f := procedure(block(api.Syntax{Kind: api.NodeAssert, Kids: []api.Syntax{sized(n - 24)}}))
		for _, write := range []func() (string, api.Errno){func() (string, api.Errno) { return Proc(f) }, func() (string, api.Errno) { return Format(program(f)) }} {
			text, e := write()
			if n > api.MaxText {
				want(t, "a procedure", text, "", e, api.ErrLong)
			} else {
				want(t, "a procedure", len(text), n, e, api.OK)
			}
		}
		// Parentheses count, too.
		text, e := Expr(binary("=", sized(n-7), place("bb")))
		if n > api.MaxText {
			want(t, "Expr", text, "", e, api.ErrLong)
		} else {
			want(t, "Expr", len(text), n, e, api.OK)
		}
	}
	// As deep as a text is long, and one node deeper.
	minus := func(x api.Syntax) api.Syntax { return unary("-", x) }
	for _, f := range functions[2:] {
		_, e := f.write(repeat(api.MaxText-1, place("a"), minus))
		want(t, f.name, e, api.ErrDeep, 0, 0)
		_, e = f.write(repeat(api.MaxText, place("a"), minus))
		want(t, f.name, e, api.ErrLong, 0, 0)
	}
	// Long before deep.
	wantErrors(t, "a long and deep text", repeat(70, sized(api.MaxText), minus), api.ErrLong, api.ErrLong, api.ErrLong)
}

// TestSizes has trees that are deeper and wider than any text (P1), with an error at their ends or without.
func TestSizes(t *testing.T) {
	const size = 300000
	for _, c := range []struct {
		what  string
		apply func(api.Syntax) api.Syntax
	}{
		{"left", func(x api.Syntax) api.Syntax { return binary("+", x, place("a")) }},
		{"right", func(x api.Syntax) api.Syntax { return binary("or", place("a"), x) }},
		{"unary", func(x api.Syntax) api.Syntax { return unary("-", x) }},
	} {
		x := repeat(size, place("a"), c.apply)
		wantErrors(t, c.what, x, api.ErrLong, api.ErrLong, api.ErrLong)
		_, e := Cond(repeat(size, place("if"), c.apply))
		want(t, c.what, e, api.ErrName, 0, 0)
	}
	x := repeat(size, block(), func(x api.Syntax) api.Syntax {
		return block(api.Syntax{Kind: api.NodeIf, Kids: []api.Syntax{place("a"), x}})
	})
	_, e := Proc(procedure(x))
	want(t, "blocks", e, api.ErrLong, 0, 0)
	list := slices.Repeat([]api.Syntax{{Kind: api.NodeAssert, Kids: []api.Syntax{place("a")}}}, size)
	_, e = Proc(procedure(block(list...)))
	want(t, "statements", e, api.ErrLong, 0, 0)
	list[size-1].Kind = api.NodeVar
	_, e = Proc(procedure(block(list...)))
	want(t, "statements and a declaration", e, api.ErrArg, 0, 0)
}
