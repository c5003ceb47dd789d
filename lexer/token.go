package lexer

import (
	"strings"

	"surveyor/api"
)

// Classes of bytes.
const (
	other = iota
	blank
	hash
	letter
	digit
	sign
)

// classes has the classes of the bytes of ASCII. All other bytes are in none.
var classes = [128]uint8{
	'\t': blank, '\n': blank, '\r': blank, ' ': blank, '#': hash,
	'%': sign, '(': sign, ')': sign, '*': sign, '+': sign, ',': sign, '-': sign, '.': sign, '/': sign, ':': sign,
	';': sign, '<': sign, '=': sign, '>': sign, '[': sign, ']': sign, '{': sign, '}': sign,
	'0': digit, '1': digit, '2': digit, '3': digit, '4': digit, '5': digit, '6': digit, '7': digit, '8': digit, '9': digit,
	'A': letter, 'B': letter, 'C': letter, 'D': letter, 'E': letter, 'F': letter, 'G': letter, 'H': letter, 'I': letter,
	'J': letter, 'K': letter, 'L': letter, 'M': letter, 'N': letter, 'O': letter, 'P': letter, 'Q': letter, 'R': letter,
	'S': letter, 'T': letter, 'U': letter, 'V': letter, 'W': letter, 'X': letter, 'Y': letter, 'Z': letter,
	'a': letter, 'b': letter, 'c': letter, 'd': letter, 'e': letter, 'f': letter, 'g': letter, 'h': letter, 'i': letter,
	'j': letter, 'k': letter, 'l': letter, 'm': letter, 'n': letter, 'o': letter, 'p': letter, 'q': letter, 'r': letter,
	's': letter, 't': letter, 'u': letter, 'v': letter, 'w': letter, 'x': letter, 'y': letter, 'z': letter,
}

func classOf(b byte) uint8 {
	if int(b) >= len(classes) {
		return other
	}
	return classes[b]
}

// skip returns the offset behind the blanks and comments at an offset.
func skip(src string, at int) int {
skipping:
	for at < len(src) {
		switch classOf(src[at]) {
		case blank:
			at++
		case hash:
			comment, _, _ := strings.Cut(src[at:], "\n")
			at += len(comment)
		default:
			break skipping
		}
	}
	return at
}

// tokenAt returns the token at an offset at which there is neither a blank nor a comment.
func tokenAt(src string, at int) (api.Token, api.Errno) {
	word := src[at : at+wordLength(src[at:])]
	switch classOf(src[at]) {
	case letter:
		if len(word) > api.MaxName {
			return api.Token{}, api.ErrName
		}
		return api.Token{Kind: api.TokenName, Text: word, At: at}, api.OK
	case digit:
		if e := Number(word); e != api.OK {
			return api.Token{}, e
		}
		return api.Token{Kind: api.TokenNumber, Text: word, At: at}, api.OK
	}
	size := signLength(src[at:])
	if size == 0 {
		return api.Token{}, api.ErrSyntax
	}
	return api.Token{Kind: api.TokenSign, Text: src[at : at+size], At: at}, api.OK
}

// wordLength returns the length of the word at the beginning of a text: 0 if there is none.
func wordLength(text string) int {
	size := 0
	for size < len(text) && (classOf(text[size]) == letter || classOf(text[size]) == digit) {
		size++
	}
	return size
}

// signLength returns the length of the sign at the beginning of a text: 0 if there is none.
func signLength(text string) int {
	switch min(len(text), 2) {
	case 2:
		if isLongSign(text[:2]) {
			return 2
		}
		fallthrough
	case 1:
		if classOf(text[0]) == sign {
			return 1
		}
	}
	return 0
}

func isLongSign(text string) bool {
	switch text {
	case ":=", "!=", "<=", ">=":
		return true
	}
	return false
}

// isTextOf reports whether tokens of a kind can have a text.
func isTextOf(kind int, text string) bool {
	switch kind {
	case api.TokenName:
		return isWord(text)
	case api.TokenNumber:
		return Number(text) == api.OK
	case api.TokenSign:
		return text != "" && signLength(text) == len(text)
	}
	return text == ""
}

// isWord reports whether a text is a name or a reserved word.
func isWord(text string) bool {
	return text != "" && len(text) <= api.MaxName && classOf(text[0]) == letter && wordLength(text) == len(text)
}

func areDigits(text string) bool {
	for i := range len(text) {
		if classOf(text[i]) != digit {
			return false
		}
	}
	return text != ""
}

// areApart reports whether the texts of two tokens remain two tokens if nothing is between them. Only the first one could reach further, as a word does up to the next sign, and as a sign does that the other one makes longer.
func areApart(text, next string) bool {
	joined := text + next
	return max(wordLength(joined), signLength(joined)) == len(text)
}
