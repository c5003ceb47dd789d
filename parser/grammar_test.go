package parser

import (
	"regexp"
	"slices"
	"strings"

	"surveyor/api"
	"surveyor/lexer"
)

// grammarText is the grammar of the document.
const grammarText = `
program    = { record | procedure } .
record     = "record" name "{" name { "," name } "}" .
procedure  = "proc" head body | "import" "proc" head ";" .
head       = name "(" [ params ] ")" [ "returns" "(" params ")" ] [ "requires" cond ] [ "ensures" cond ] .
params     = param { "," param } .
param      = name [ ":" name ] .
body       = "{" { "var" params ";" | "array" name "[" number "]" ";" } { statement } "}" .
block      = "{" { statement } "}" .
statement  = place { "," place } ":=" right ";" | name "[" expr "]" ":=" expr ";"
           | name "(" [ exprs ] ")" ";" | if | "while" cond block | "assert" cond ";" | "assume" cond ";" .
if         = "if" cond block [ "else" ( block | if ) ] .
right      = "input" | name "[" expr "]" | name "(" [ exprs ] ")" | expr .
exprs      = expr { "," expr } .
place      = name [ "." name ] .
cond       = conj { "or" conj } .
conj       = neg { "and" neg } .
neg        = "not" neg | comparison .
comparison = expr [ ( "=" | "!=" | "<" | "<=" | ">" | ">=" ) expr ] .
expr       = product { ( "+" | "-" ) product } .
product    = unary { ( "*" | "/" | "%" ) unary } .
unary      = "-" unary | unit .
unit       = number | place | "true" | "false" | "(" cond ")" .
`

// grammar has the sequences of symbols that each symbol stands for. Symbols in quotation marks, name and number are tokens.
type grammar struct {
	rules    map[string][][]string
	nullable map[string]bool
	symbols  []string // of the text that is being read
}

func readGrammar() *grammar {
	g := &grammar{rules: map[string][][]string{}, nullable: map[string]bool{}, symbols: regexp.MustCompile(`"[^"]*"|\w+|[={}()\[\]|.]`).FindAllString(grammarText, -1)}
	for len(g.symbols) > 0 {
		name := g.take()
		g.take()
		g.rules[name] = g.alternatives()
	}
	for range g.rules {
		for name, list := range g.rules {
			for _, sequence := range list {
				g.nullable[name] = g.nullable[name] || !slices.ContainsFunc(sequence, func(x string) bool { return !g.nullable[x] })
			}
		}
	}
	return g
}

func (g *grammar) take() string {
	symbol := g.symbols[0]
	g.symbols = g.symbols[1:]
	return symbol
}

// alternatives reads sequences up to the sign behind them.
func (g *grammar) alternatives() [][]string {
	list := [][]string{nil}
	for {
		switch symbol := g.take(); symbol {
		case ".", ")", "]", "}":
			return list
		case "|":
			list = append(list, nil)
		case "(", "[", "{":
			list[len(list)-1] = append(list[len(list)-1], g.group(symbol))
		default:
			list[len(list)-1] = append(list[len(list)-1], symbol)
		}
	}
}

// group returns a new symbol for what is in brackets.
func (g *grammar) group(bracket string) string {
	list := g.alternatives()
	name := "group" + string(rune('A'+len(g.rules)))
	g.rules[name] = nil
	if bracket == "{" {
		for i := range list {
			list[i] = append(list[i], name)
		}
	}
	if bracket != "(" {
		list = append(list, nil)
	}
	g.rules[name] = list
	return name
}

// item is a sequence of which a part has been found, beginning at a token.
type item struct {
	symbol            string
	rule, dot, origin int
}

// firstBad returns the index of the first token with which no text of a symbol goes on, or -1: Earley's algorithm.
func (g *grammar) firstBad(start string, tokens []api.Token) int {
	sets := [][]item{nil}
	add := func(at int, x item) {
		if !slices.Contains(sets[at], x) {
			sets[at] = append(sets[at], x)
		}
	}
	for i := range g.rules[start] {
		add(0, item{start, i, 0, 0})
	}
	for at, token := range tokens {
		sets = append(sets, nil)
		isWhole := false
		for k := 0; k < len(sets[at]); k++ {
			x := sets[at][k]
			sequence := g.rules[x.symbol][x.rule]
			if x.dot == len(sequence) {
				isWhole = isWhole || x.symbol == start && x.origin == 0
				for _, y := range slices.Clone(sets[x.origin]) {
					if s := g.rules[y.symbol][y.rule]; y.dot < len(s) && s[y.dot] == x.symbol {
						add(at, item{y.symbol, y.rule, y.dot + 1, y.origin})
					}
				}
				continue
			}
			next := sequence[x.dot]
			for i := range g.rules[next] {
				add(at, item{next, i, 0, at})
			}
			if g.nullable[next] || isToken(next, token) {
				target := at
				if !g.nullable[next] {
					target++
				}
				add(target, item{x.symbol, x.rule, x.dot + 1, x.origin})
			}
		}
		if token.Kind == api.TokenEnd && isWhole {
			return -1
		}
		if len(sets[at+1]) == 0 {
			return at
		}
	}
	panic("no end")
}

// isToken reports whether a symbol of the grammar stands for a token.
func isToken(symbol string, token api.Token) bool {
	switch symbol {
	case "name":
		return token.Kind == api.TokenName && lexer.Name(token.Text) == api.OK
	case "number":
		return token.Kind == api.TokenNumber
	}
	return token.Kind != api.TokenEnd && symbol == `"`+strings.ReplaceAll(token.Text, `"`, "")+`"`
}
