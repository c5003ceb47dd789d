package parser

import (
	"fmt"
	"math/rand"
	"strconv"
	"strings"

	"surveyor/api"
)

// source writes random texts, and the trees that they have.
type source struct {
	random *rand.Rand
	text   strings.Builder
	last   string
	size   int  // how much more is written
	chains bool // whether much is nested
	depth  int
	deep   int // the offset of the first token that opens too many levels, or -1
}

func newSource(random *rand.Rand, size int, chains bool) *source {
	return &source{random: random, size: size, chains: chains, deep: -1}
}

func (s *source) chance(n int) bool {
	return s.random.Intn(n) == 0
}

// more reports whether there is one more part, which becomes less likely when much is written.
func (s *source) more() bool {
	s.size--
	return s.size > 0 && !s.chance(3)
}

func (s *source) pick(list string) string {
	words := strings.Fields(list)
	return words[s.random.Intn(len(words))]
}

func isAlnum(b byte) bool {
	return b >= '0' && b <= '9' || b|32 >= 'a' && b|32 <= 'z'
}

// token writes a token, behind blanks and comments, and returns its offset.
func (s *source) token(text string) int {
	gap := s.pick(`0 0 0 0 \x20 \x20 \x20 \n \t \r\n \x20\x20 #\n #x:=1;\n\n #é{#\n`)
	gap, _ = strconv.Unquote(`"` + gap + `"`)
	isJoined := s.last != "" && (isAlnum(s.last[len(s.last)-1]) && isAlnum(text[0]) || strings.Contains(":!<>", s.last) && text[0] == '=')
	if gap == "0" {
		gap = ""
		if isJoined {
			gap = " "
		}
	}
	s.text.WriteString(gap)
	at := s.text.Len()
	s.text.WriteString(text)
	s.last = text
	return at
}

// open writes a token that opens a level.
func (s *source) open(text string) int {
	at := s.token(text)
	s.depth++
	if s.depth > 64 && s.deep < 0 {
		s.deep = at
	}
	return at
}

func (s *source) close(text string) {
	s.token(text)
	s.depth--
}

func (s *source) name() string {
	return s.pick("a b x y1 Z9 i iff nota orb input1 true0 name proc1 abcdefghijklmnopqrstuvwx")
}

func (s *source) named(kind int, kids ...api.Syntax) api.Syntax {
	name := s.name()
	return api.Syntax{Kind: kind, At: s.token(name), Text: name, Kids: kids}
}

func (s *source) list(write func() api.Syntax) []api.Syntax {
	list := []api.Syntax{write()}
	for s.more() {
		s.token(",")
		list = append(list, write())
	}
	return list
}

func (s *source) program() api.Syntax {
	t := api.Syntax{Kind: api.NodeProgram, At: -1}
	for s.more() || s.chance(4) {
		if s.chance(4) {
			t.Kids = append(t.Kids, s.record())
		} else {
			t.Kids = append(t.Kids, s.procedure())
		}
	}
	return t
}

func (s *source) record() api.Syntax {
	at := s.token("record")
	t := s.named(api.NodeRecord)
	t.At = at
	s.token("{")
	t.Kids = s.list(func() api.Syntax { return s.named(api.NodeName) })
	s.token("}")
	return t
}

func (s *source) procedure() api.Syntax {
	isImport, first := s.chance(4), 0
	if isImport {
		first = s.token("import")
	}
	at := s.token("proc")
	if isImport {
		at = first
	}
	t := s.named(api.NodeProc)
	t.At = at
	params := api.Syntax{Kind: api.NodeList, At: s.token("(")}
	if s.more() {
		params.Kids = s.list(s.param)
	}
	s.token(")")
	results := api.Syntax{Kind: api.NodeList, At: -1}
	if s.more() {
		s.token("returns")
		results.At = s.token("(")
		results.Kids = s.list(s.param)
		s.token(")")
	}
	t.Kids = []api.Syntax{params, results, s.when("requires"), s.when("ensures")}
	end := 0
	if isImport {
		end = s.token(";")
	} else {
		t.Kids = append(t.Kids, s.block(true))
		end = t.Kids[4].At
	}
	// What is absent has the offset of the next part that is there.
	for i := 3; i > 0; i-- {
		if t.Kids[i].At < 0 {
			t.Kids[i].At = end
		}
		end = t.Kids[i].At
	}
	return t
}

func (s *source) when(word string) api.Syntax {
	t := api.Syntax{Kind: api.NodeWhen, At: -1}
	if s.more() {
		t.At = s.token(word)
		t.Kids = []api.Syntax{s.condition()}
	}
	return t
}

func (s *source) param() api.Syntax {
	t := s.named(api.NodeParam)
	if s.chance(3) {
		s.token(":")
		t.Kids = []api.Syntax{s.named(api.NodeName)}
	}
	return t
}

func (s *source) block(isBody bool) api.Syntax {
	t := api.Syntax{Kind: api.NodeBlock, At: s.open("{")}
	for isBody && s.more() {
		if s.chance(2) {
			variables := api.Syntax{Kind: api.NodeVar, At: s.token("var")}
			variables.Kids = s.list(s.param)
			t.Kids = append(t.Kids, variables)
		} else {
			at := s.token("array")
			array := s.named(api.NodeArray)
			s.token("[")
			array.At, array.Num = at, s.random.Intn(2)*s.random.Intn(1048577)
			s.token(strconv.Itoa(array.Num))
			s.token("]")
			t.Kids = append(t.Kids, array)
		}
		s.token(";")
	}
	for s.more() {
		t.Kids = append(t.Kids, s.statement())
	}
	s.close("}")
	return t
}

func (s *source) statement() api.Syntax {
	switch s.random.Intn(9) {
	case 0:
		return s.choice(s.token("if"))
	case 1:
		at := s.token("while")
		return api.Syntax{Kind: api.NodeWhile, At: at, Kids: []api.Syntax{s.condition(), s.block(false)}}
	case 2, 3:
		kind, word := api.NodeAssert, "assert"
		if s.chance(2) {
			kind, word = api.NodeAssume, "assume"
		}
		at := s.token(word)
		condition := s.condition()
		s.token(";")
		return api.Syntax{Kind: kind, At: at, Kids: []api.Syntax{condition}}
	case 4:
		t := s.element(api.NodeStore)
		s.token(":=")
		t.Kids = append(t.Kids, s.expression())
		s.token(";")
		return t
	case 5:
		call := s.call()
		s.token(";")
		return api.Syntax{Kind: api.NodeAssign, At: call.At, Kids: []api.Syntax{{Kind: api.NodeList, At: call.At}, call}}
	}
	places := s.list(s.place)
	s.token(":=")
	right := s.right()
	s.token(";")
	return api.Syntax{Kind: api.NodeAssign, At: places[0].At, Kids: []api.Syntax{{Kind: api.NodeList, At: places[0].At, Kids: places}, right}}
}

func (s *source) choice(at int) api.Syntax {
	t := api.Syntax{Kind: api.NodeIf, At: at, Kids: []api.Syntax{s.condition(), s.block(false)}}
	isChain := s.chains && !s.chance(20)
	if isChain || s.chance(2) {
		s.token("else")
		if isChain || s.chance(2) {
			t.Kids = append(t.Kids, s.choice(s.open("if")))
			s.depth--
		} else {
			t.Kids = append(t.Kids, s.block(false))
		}
	}
	return t
}

func (s *source) right() api.Syntax {
	switch s.random.Intn(6) {
	case 0:
		return api.Syntax{Kind: api.NodeInput, At: s.token("input")}
	case 1:
		return s.element(api.NodeLoad)
	case 2:
		return s.call()
	}
	return s.expression()
}

func (s *source) element(kind int) api.Syntax {
	t := s.named(kind)
	s.token("[")
	t.Kids = []api.Syntax{s.expression()}
	s.token("]")
	return t
}

func (s *source) call() api.Syntax {
	t := s.named(api.NodeCall)
	s.token("(")
	if s.more() {
		t.Kids = s.list(s.expression)
	}
	s.token(")")
	return t
}

func (s *source) place() api.Syntax {
	t := s.named(api.NodePlace)
	if s.chance(4) {
		s.token(".")
		t.Kids = []api.Syntax{s.named(api.NodeName)}
	}
	return t
}

func (s *source) condition() api.Syntax {
	t, _ := s.operand(0)
	return t
}

func (s *source) expression() api.Syntax {
	t, _ := s.operand(4)
	return t
}

// operand writes a condition whose operator stands at least at a level of the grammar (0 is cond, 1 conj, 2 neg, 3 comparison, 4 expr, 5 product, 6 unary, 7 unit), and returns the offset of its first token.
func (s *source) operand(level int) (api.Syntax, int) {
	top := 7
	if s.more() {
		top = s.random.Intn(8)
	}
	if s.chains && s.chance(8) {
		return s.parentheses(1 + s.random.Intn(40))
	}
	if top < level || s.chance(6) {
		return s.parentheses(1)
	}
	switch top {
	case 2, 6:
		text := map[int]string{2: "not", 6: "-"}[top]
		at := s.open(text)
		kid, _ := s.operand(top)
		s.depth--
		return api.Syntax{Kind: api.NodeUnary, At: at, Text: text, Kids: []api.Syntax{kid}}, at
	case 7:
		t := s.unit()
		return t, t.At
	}
	first := top
	if top == 3 {
		first = 4
	}
	left, at := s.operand(first)
	text := s.pick([]string{"or", "and", "", "= != < <= > >=", "+ -", "* / %"}[top])
	s.token(text)
	right, _ := s.operand(top + 1)
	return api.Syntax{Kind: api.NodeBinary, At: at, Text: text, Kids: []api.Syntax{left, right}}, at
}

func (s *source) parentheses(n int) (api.Syntax, int) {
	at := s.open("(")
	for range n - 1 {
		s.open("(")
	}
	t, _ := s.operand(0)
	for range n {
		s.close(")")
	}
	return t, at
}

func (s *source) unit() api.Syntax {
	text, kind := s.pick("true false"), api.NodeTruth
	switch s.random.Intn(5) {
	case 0, 1, 2:
		return s.place()
	case 3:
		text, kind = s.pick("0 1 7 10 1048577 "+strings.Repeat("9", 100)), api.NodeNumber
	}
	return api.Syntax{Kind: kind, At: s.token(text), Text: text}
}

// finish returns the text, behind which blanks and comments may stand.
func (s *source) finish() string {
	s.text.WriteString([]string{"", " ", "\n", "# end", "#\n"}[s.random.Intn(5)])
	return s.text.String()
}

// dump returns all that is in a tree.
func dump(t api.Syntax) string {
	var text strings.Builder
	writeTree(&text, t, true)
	return text.String()
}

// shape returns all that is in a tree but offsets.
func shape(t api.Syntax) string {
	var text strings.Builder
	writeTree(&text, t, false)
	return text.String()
}

func writeTree(text *strings.Builder, t api.Syntax, withOffsets bool) {
	name := fmt.Sprint(t.Kind)
	if t.Kind >= 0 && t.Kind < len(kindNames) {
		name = kindNames[t.Kind]
	}
	text.WriteString(name)
	if withOffsets {
		fmt.Fprintf(text, "@%d", t.At)
	}
	if t.Text != "" {
		fmt.Fprintf(text, " %s", t.Text)
	}
	if t.Num != 0 {
		fmt.Fprintf(text, " #%d", t.Num)
	}
	for i, kid := range t.Kids {
		text.WriteString([]string{" (", " "}[min(i, 1)])
		writeTree(text, kid, withOffsets)
	}
	if len(t.Kids) > 0 {
		text.WriteString(")")
	}
}

var kindNames = strings.Fields("program record proc list param when block var array assign store if while assert assume input load call place name number unary binary truth")
