package lexer

import (
	"fmt"
	"math/rand"
	"regexp"
	"strings"
	"testing"

	"surveyor/api"
)

// This file has the references that results are compared with, and arguments.

func short(x any) string {
	text := fmt.Sprintf("%q", x)
	if len(text) > 400 {
		return fmt.Sprintf("%s.. (%d bytes)", text[:400], len(text))
	}
	return text
}

// want compares results, where nil and empty slices are the same.
func want(t *testing.T, what string, got, wanted any, e, f api.Errno) {
	t.Helper()
	if fmt.Sprintf("%q", got) != fmt.Sprintf("%q", wanted) || e != f {
		t.Errorf("%s: got %s and %d, want %s and %d", what, short(got), e, short(wanted), f)
	}
}

const reserved = "and array assert assume else ensures false if import input not or proc record requires returns true var while"

const signs = ":= != <= >= { } ( ) [ ] , ; : . = < > + - * / %"

var (
	space     = regexp.MustCompile(`^(?:[ \t\r\n]|#[^\n]*)+`)
	comment   = regexp.MustCompile(`#[^\n]*`)
	word      = regexp.MustCompile(`^[A-Za-z0-9]+`)
	name      = regexp.MustCompile(`^[A-Za-z][A-Za-z0-9]{0,23}$`)
	digits    = regexp.MustCompile(`^[0-9]+$`)
	canonical = regexp.MustCompile(`^(?:0|[1-9][0-9]*)$`)
	signText  = regexp.MustCompile(`^(?::=|!=|<=|>=|[{}()\[\],;:.=<>+*/%-])`)
)

// errorOfWord is the error of a word by the document.
func errorOfWord(text string) api.Errno {
	switch {
	case text[0] > '9' && !name.MatchString(text):
		return api.ErrName
	case text[0] > '9':
		return api.OK
	}
	return errorOfNumber(text)
}

func errorOfNumber(text string) api.Errno {
	switch {
	case !digits.MatchString(text):
		return api.ErrSyntax
	case !canonical.MatchString(text):
		return api.ErrForm
	case len(text) > 100:
		return api.ErrLarge
	}
	return api.OK
}

// scan is Scan by the document, with regular expressions.
func scan(src string) ([]api.Token, int, api.Errno) {
	if len(src) > 65536 {
		return nil, 0, api.ErrLong
	}
	var tokens []api.Token
	at := 0
	for {
		at += len(space.FindString(src[at:]))
		rest := src[at:]
		text, kind := word.FindString(rest), api.TokenName
		switch {
		case rest == "":
			return append(tokens, api.Token{Kind: api.TokenEnd, At: at}), 0, api.OK
		case text != "":
			if e := errorOfWord(text); e != api.OK {
				return nil, at, e
			}
			if text[0] <= '9' {
				kind = api.TokenNumber
			}
		default:
			text, kind = signText.FindString(rest), api.TokenSign
			if text == "" {
				return nil, at, api.ErrSyntax
			}
		}
		tokens = append(tokens, api.Token{Kind: kind, Text: text, At: at})
		at += len(text)
	}
}

// pieces are texts of which random ones are made: nearly all of them are parts of tokens.
func pieces() []string {
	list := strings.Fields(signs + " x y1 X9z 0 7 10 if while true " + strings.Repeat("n", 24) + " 1" + strings.Repeat("0", 99))
	return append(list, " ", "\t", "\r", "\n", "# c ! 01\n", "#", "#\r\n", "  ")
}

// faults are texts that are tokens nowhere, or depend on what is beside them.
func faults() []string {
	return []string{"!", "&", "|", "_", "\"", "'", "\x00", "\x7f", "\x80", "\xff", "é", "٣", "０", "~", "^", "@", "?", "\\", "$", "\v", "\f", "00", "01", "0x", "3x", strings.Repeat("n", 25), strings.Repeat("9", 101), "0" + strings.Repeat("9", 101), strings.Repeat("9", 101) + "e"}
}

// randomText returns a text of some pieces, and sometimes of a fault.
func randomText(random *rand.Rand, size int) string {
	var text strings.Builder
	list, bad := pieces(), faults()
	for range random.Intn(size) {
		text.WriteString(list[random.Intn(len(list))])
		if random.Intn(8*size) == 0 {
			text.WriteString(bad[random.Intn(len(bad))])
		}
		if random.Intn(2) == 0 {
			text.WriteString(" ")
		}
	}
	return text.String()
}

func tok(kind int, text string, at int) api.Token {
	return api.Token{Kind: kind, Text: text, At: at}
}

// bare returns tokens without their offsets.
func bare(tokens []api.Token) []api.Token {
	var list []api.Token
	for _, x := range tokens {
		list = append(list, tok(x.Kind, x.Text, 0))
	}
	return list
}
