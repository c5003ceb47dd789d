package parser

import (
	"surveyor/api"
	"surveyor/lexer"
)

// reader reads tokens from left to right.
type reader struct {
	tokens []api.Token // the last one is the end, which is never passed
	next   int         // the index of the current token
	depth  int         // how many levels are open
	at     int         // the offset of the first error
	e      api.Errno   // the first error

	levels     []level
	statements map[string]func() api.Syntax
}

func newReader(tokens []api.Token) *reader {
	r := &reader{tokens: tokens}
	r.levels = r.operatorLevels()
	r.statements = r.statementStarts()
	return r
}

// fail keeps the first error, and goes to the end: as nothing begins there, all that is being read is left without reading further.
func (r *reader) fail(at int, e api.Errno) {
	if r.e == api.OK {
		r.at, r.e = at, e
	}
	r.next = len(r.tokens) - 1
}

// token returns the current token.
func (r *reader) token() api.Token {
	return r.tokens[r.next]
}

// following returns the text of the token behind the current one.
func (r *reader) following() string {
	return r.tokens[min(r.next+1, len(r.tokens)-1)].Text
}

// here returns the offset of the current token.
func (r *reader) here() int {
	return r.token().At
}

// take returns the current token and goes to the next one.
func (r *reader) take() api.Token {
	token := r.token()
	r.next = min(r.next+1, len(r.tokens)-1)
	return token
}

// is reports whether the current token has a text. Only the end has the empty one.
func (r *reader) is(text string) bool {
	return r.token().Text == text
}

// accept takes the current token if it has a text.
func (r *reader) accept(text string) bool {
	found := r.is(text)
	if found {
		r.take()
	}
	return found
}

// expect takes the current token, which must have a text.
func (r *reader) expect(text string) api.Token {
	return r.must(r.is(text))
}

// must takes the current token if it can stand there.
func (r *reader) must(can bool) api.Token {
	if !can {
		r.fail(r.here(), api.ErrSyntax)
	}
	return r.take()
}

// name takes a name.
func (r *reader) name() api.Token {
	return r.must(r.isName())
}

func (r *reader) isName() bool {
	token := r.token()
	return token.Kind == api.TokenName && lexer.Name(token.Text) == api.OK
}

// number takes a number.
func (r *reader) number() api.Token {
	return r.must(r.isNumber())
}

func (r *reader) isNumber() bool {
	return r.token().Kind == api.TokenNumber
}

// enter takes a token with a text, which opens a level.
func (r *reader) enter(text string) api.Token {
	token := r.expect(text)
	if r.depth == api.MaxNodes {
		r.fail(token.At, api.ErrDeep)
	}
	r.depth++
	return token
}

// leave closes a level.
func (r *reader) leave() {
	r.depth--
}

// list reads constructs with commas between them.
func (r *reader) list(read func() api.Syntax) []api.Syntax {
	list := []api.Syntax{read()}
	for r.accept(",") {
		list = append(list, read())
	}
	return list
}

// listBefore reads a list that may be empty, up to a token that closes it.
func (r *reader) listBefore(closing string, read func() api.Syntax) []api.Syntax {
	if r.is(closing) {
		return nil
	}
	return r.list(read)
}

func node(kind, at int, text string, kids ...api.Syntax) api.Syntax {
	return api.Syntax{Kind: kind, At: at, Text: text, Kids: kids}
}
