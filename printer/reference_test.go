package printer

import (
	"fmt"
	"math/rand"
	"slices"
	"strings"
	"testing"

	"surveyor/api"
	"surveyor/lexer"
)

// This file has the references that results are compared with, and arguments.

var kindNames = strings.Fields("program record proc list param when block var array assign store if while assert assume input load call place name number unary binary truth")

// forms has what can stand where, by the document: kinds of nodes with their texts (n: a name, 9: a number, u, b, t: one of the operators or words, -: none) and the kids (* any number, + at least one, ? at most one).
const forms = `
Program: program - Unit*
Unit: record n Name+ | proc n Params Params When When Body?
Proc: proc n Params Params When When Body?
Name: name n
Params: list - Param*
Param: param n Name?
When: when - Cond?
Body: block - Line*
Line: var - Param+ | array n | assign - Places Right | store n Cond Cond | if - Cond Block Else? | while - Cond Block | assert - Cond | assume - Cond
Block: block - Stmt*
Stmt: assign - Places Right | store n Cond Cond | if - Cond Block Else? | while - Cond Block | assert - Cond | assume - Cond
Else: block - Stmt* | if - Cond Block Else?
Places: list - Place*
Place: place n Name?
Right: input - | load n Cond | call n Cond* | place n Name? | number 9 | unary u Cond | binary b Cond Cond | truth t
Call: call n Cond*
Cond: place n Name? | number 9 | unary u Cond | binary b Cond Cond | truth t
`

// form is what a node can be in a place.
type form struct {
	kind int
	text string
	kids []string
}

// placeForms has the forms of each place.
type placeForms map[string][]form

func readForms() placeForms {
	all := placeForms{}
	for _, line := range strings.Split(strings.TrimSpace(forms), "\n") {
		name, rest, _ := strings.Cut(line, ": ")
		for _, alternative := range strings.Split(rest, " | ") {
			words := strings.Fields(alternative)
			all[name] = append(all[name], form{slices.Index(kindNames, words[0]), words[1], words[2:]})
		}
	}
	return all
}

// split returns the name of a place, and how many nodes are there at least and at most.
func split(kid string) (string, int, int) {
	name := strings.TrimRight(kid, "*+?")
	switch kid[len(name):] {
	case "*":
		return name, 0, 1 << 40
	case "+":
		return name, 1, 1 << 40
	case "?":
		return name, 0, 1
	}
	return name, 1, 1
}

// check is the error of a tree in a place.
func (all placeForms) check(t api.Syntax, place string) api.Errno {
	i := slices.IndexFunc(all[place], func(f form) bool { return f.kind == t.Kind })
	if i < 0 {
		return api.ErrArg
	}
	f := all[place][i]
	least, most := 0, 0
	for _, kid := range f.kids {
		_, l, m := split(kid)
		least, most = least+l, most+m
	}
	if len(t.Kids) < least || len(t.Kids) > most {
		return api.ErrShape
	}
	isText := map[string]bool{
		"-": t.Text == "", "9": lexer.Number(t.Text) == api.OK, "u": t.Text == "-" || t.Text == "not", "t": t.Text == "true" || t.Text == "false", "n": true,
		"b": slices.Contains(strings.Fields("or and = != < <= > >= + - * / %"), t.Text),
	}[f.text]
	isNum := t.Num == 0 || t.Kind == api.NodeArray && t.Num > 0 && t.Num <= 1048576
	switch {
	case f.text == "n" && lexer.Name(t.Text) != api.OK:
		return api.ErrName
	case !isText, !isNum:
		return api.ErrForm
	}
	hasStatement := false
	for i, kid := range t.Kids {
		name, _, _ := split(f.kids[min(i, len(f.kids)-1)])
		if hasStatement && name == "Line" {
			name = "Stmt"
		}
		if name == "Right" && len(t.Kids[0].Kids) == 0 {
			name = "Call"
		}
		if e := all.check(kid, name); e != api.OK {
			return e
		}
		hasStatement = hasStatement || kid.Kind != api.NodeVar && kid.Kind != api.NodeArray
	}
	return api.OK
}

// random returns a random tree of a place, with about so many nodes.
func (all placeForms) random(random *rand.Rand, place string, size *int) api.Syntax {
	*size--
	list := all[place]
	f := list[random.Intn(len(list))]
	if *size <= 0 && (place == "Cond" || place == "Right") {
		f = all["Cond"][0]
	}
	texts := map[string]string{
		"-": "", "n": "a b x y1 iff name record1 abcdefghijklmnopqrstuvwx", "9": "0 1 42 " + strings.Repeat("9", 100),
		"u": "- - not", "t": "true false", "b": "or and = != < <= > >= + + - - * * / %",
	}
	t := api.Syntax{Kind: f.kind, At: random.Intn(100) - 50}
	if words := strings.Fields(texts[f.text]); len(words) > 0 {
		t.Text = words[random.Intn(len(words))]
	}
	if f.kind == api.NodeArray {
		t.Num = random.Intn(2) * random.Intn(1048577)
	}
	for _, kid := range f.kids {
		name, least, most := split(kid)
		for n := 0; n < most && (n < least || *size > 0 && random.Intn(3) > 0); n++ {
			t.Kids = append(t.Kids, all.random(random, name, size))
		}
	}
	fix(&t)
	return t
}

// fix makes a block or an assignment well-formed whose kids are so alone.
func fix(t *api.Syntax) {
	switch {
	case t.Kind == api.NodeBlock:
		slices.SortStableFunc(t.Kids, func(x, y api.Syntax) int { return isStatement(x) - isStatement(y) })
	case t.Kind == api.NodeAssign && len(t.Kids[0].Kids) == 0 && t.Kids[1].Kind != api.NodeCall:
		t.Kids[1] = api.Syntax{Kind: api.NodeCall, Text: "f"}
	}
}

func isStatement(t api.Syntax) int {
	if t.Kind == api.NodeVar || t.Kind == api.NodeArray {
		return 0
	}
	return 1
}

// nodes returns all nodes of a tree.
func nodes(t *api.Syntax) []*api.Syntax {
	list := []*api.Syntax{t}
	for i := range t.Kids {
		list = append(list, nodes(&t.Kids[i])...)
	}
	return list
}

// clone returns a tree that shares nothing with another one.
func clone(t api.Syntax) api.Syntax {
	t.Kids = slices.Clone(t.Kids)
	for i := range t.Kids {
		t.Kids[i] = clone(t.Kids[i])
	}
	return t
}

// fault changes something of a tree.
func fault(random *rand.Rand, t *api.Syntax) {
	list := nodes(t)
	x := list[random.Intn(len(list))]
	switch random.Intn(8) {
	case 0:
		x.Kind = random.Intn(28) - 2
	case 1:
		x.Kids = append(slices.Clone(x.Kids), clone(*list[random.Intn(len(list))]))
	case 2:
		x.Kids = x.Kids[:random.Intn(len(x.Kids)+1)]
	case 3:
		*x = clone(*list[random.Intn(len(list))])
	case 4:
		words := []string{"", "a", "1", "01", "-", "not", "or", "=", "+", "true", ":=", "if", "a.b", strings.Repeat("n", 25), strings.Repeat("1", 101), "<>", "é"}
		x.Text = words[random.Intn(len(words))]
	case 5:
		x.Num = []int{-1, 1, 2, 1048576, 1048577, 1 << 62, -1 << 63}[random.Intn(7)]
	case 6:
		if len(x.Kids) > 1 {
			i := random.Intn(len(x.Kids) - 1)
			x.Kids[i], x.Kids[i+1] = x.Kids[i+1], x.Kids[i]
		}
	case 7:
		if len(x.Kids) > 0 {
			x.Kids = x.Kids[1:]
		}
	}
}

// shape returns all that is in a tree but offsets.
func shape(t api.Syntax) string {
	list := make([]string, len(t.Kids))
	for i, kid := range t.Kids {
		list[i] = shape(kid)
	}
	return fmt.Sprintf("%d %q %d [%s]", t.Kind, t.Text, t.Num, strings.Join(list, " "))
}

// layout is the text of a program that has these tokens.
func layout(tokens []api.Token) string {
	var text strings.Builder
	indent, isRecord, isStart := 0, false, true
	for i, token := range tokens[:len(tokens)-1] {
		x, next := token.Text, tokens[i+1].Text
		isRecord = isRecord || x == "record"
		if x == "}" && !isRecord {
			indent--
		}
		if isStart {
			text.WriteString(strings.Repeat("  ", indent))
		} else if !isClose(tokens, i) {
			text.WriteString(" ")
		}
		text.WriteString(x)
		if x == "{" && !isRecord {
			indent++
		}
		isStart = x == ";" || x == "}" && next != "else" || x == "{" && !isRecord
		if x == "}" {
			isRecord = false
		}
		if isStart {
			text.WriteString("\n")
		}
	}
	return text.String()
}

// isClose reports whether nothing is between a token and the one before it.
func isClose(tokens []api.Token, i int) bool {
	x, last := tokens[i], tokens[i-1]
	switch {
	case strings.Contains(",;)].[", x.Text), strings.Contains("([.", last.Text):
		return true
	case x.Text == "(":
		return lexer.Name(last.Text) == api.OK || isMinus(tokens, i-1)
	}
	return isMinus(tokens, i-1)
}

// isMinus reports whether a token is a minus sign of one operand.
func isMinus(tokens []api.Token, i int) bool {
	if tokens[i].Text != "-" || i == 0 {
		return tokens[i].Text == "-"
	}
	last := tokens[i-1]
	isOperand := last.Kind == api.TokenNumber || lexer.Name(last.Text) == api.OK || strings.Contains(") true false", last.Text)
	return !isOperand
}

func want(t *testing.T, what string, got, wanted any, e, f api.Errno) {
	t.Helper()
	x, y := fmt.Sprint(got), fmt.Sprint(wanted)
	if x != y || e != f {
		t.Errorf("%.400s:\n got %.400s, %d\nwant %.400s, %d", what, x, e, y, f)
	}
}
