package lexer

import (
	"math"
	"math/rand"
	"slices"
	"strings"
	"testing"

	"surveyor/api"
)

// tokensOf returns the tokens with some texts, and the end, all with offsets that mean nothing.
func tokensOf(texts ...string) []api.Token {
	var list []api.Token
	for _, x := range texts {
		kind := api.TokenSign
		switch {
		case digits.MatchString(x):
			kind = api.TokenNumber
		case word.MatchString(x):
			kind = api.TokenName
		}
		list = append(list, tok(kind, x, 77-len(list)))
	}
	return append(list, tok(api.TokenEnd, "", math.MinInt))
}

// joined is Join by the document: a space stands where the two texts alone have other tokens.
func joined(tokens []api.Token) string {
	var text strings.Builder
	for i, x := range tokens[:len(tokens)-1] {
		text.WriteString(x.Text)
		y := tokens[i+1]
		pair, _, _ := scan(x.Text + y.Text)
		if y.Kind != api.TokenEnd && !slices.Equal(bare(pair), []api.Token{tok(x.Kind, x.Text, 0), tok(y.Kind, y.Text, 0), tok(api.TokenEnd, "", 0)}) {
			text.WriteString(" ")
		}
	}
	return text.String()
}

func TestP8_2Join(t *testing.T) {
	n, m := strings.Repeat("n", api.MaxName), strings.Repeat("9", api.MaxDigits)
	for _, c := range []struct {
		texts []string
		text  string
	}{
		{[]string{"x", "=", "=", "y", "<", "="}, "x==y< ="}, {nil, ""}, {[]string{"x"}, "x"}, {[]string{"x", "y"}, "x y"}, {[]string{"x", "1"}, "x 1"}, {[]string{"1", "x"}, "1 x"}, {[]string{"1", "2"}, "1 2"}, {[]string{"0", "0"}, "0 0"}, {[]string{n, "x", m, "0", n}, n + " x " + m + " 0 " + n}, {[]string{"if", "not", "true", "{", "}"}, "if not true{}"},
		{[]string{":", "="}, ": ="}, {[]string{":", ":="}, "::="}, {[]string{":=", "="}, ":=="}, {[]string{"<", "<="}, "<<="}, {[]string{"<", ">"}, "<>"}, {[]string{"<", ">", "="}, "<> ="}, {[]string{"!=", "="}, "!=="}, {[]string{"=", "!="}, "=!="}, {[]string{":", "="}, ": ="}, {[]string{">", "=", "="}, "> =="}, {[]string{">=", ">", "="}, ">=> ="}, {[]string{"a", ".", "b", ":=", "-", "1", "%", "3", ";"}, "a.b:=-1%3;"},
	} {
		text, e := Join(tokensOf(c.texts...))
		want(t, "Join of "+short(c.texts), text, c.text, e, api.OK)
	}
	all := append(strings.Fields(signs), "x", "while", "0", "12", n, m)
	for _, x := range all {
		for _, y := range all {
			for _, z := range all {
				tokens := tokensOf(x, y, z)
				text, e := Join(tokens)
				want(t, "Join of "+short(tokens), text, joined(tokens), e, api.OK)
			}
		}
	}
}

func TestP8_2JoinErrors(t *testing.T) {
	end := tok(api.TokenEnd, "", 0)
	n, m := strings.Repeat("n", api.MaxName+1), strings.Repeat("9", api.MaxDigits+1)
	for _, c := range []struct {
		l []api.Token
		e api.Errno
	}{
		{nil, api.ErrGap}, {tokensOf("x")[:1], api.ErrGap}, {[]api.Token{end, tok(api.TokenName, "x", 0)}, api.ErrGap}, {[]api.Token{tok(4, "x", 0)}, api.ErrGap}, {[]api.Token{tok(-1, "", 0)}, api.ErrGap}, {[]api.Token{tok(api.TokenName, "01", 0)}, api.ErrGap},
		{[]api.Token{tok(4, "x", 0), end}, api.ErrArg}, {[]api.Token{tok(-1, "x", 0), end}, api.ErrArg}, {[]api.Token{tok(math.MaxInt, "x", 0), end}, api.ErrArg}, {[]api.Token{tok(math.MinInt, "", 0), end}, api.ErrArg}, {[]api.Token{end, end}, api.ErrArg}, {[]api.Token{tok(api.TokenEnd, "x", 0), end}, api.ErrArg}, {[]api.Token{end, tok(api.TokenName, "1", 0), end}, api.ErrArg}, {[]api.Token{tok(api.TokenName, "1", 0), end, end}, api.ErrForm},
		{[]api.Token{tok(api.TokenEnd, "x", 0)}, api.ErrForm}, {[]api.Token{tok(api.TokenEnd, " ", 0)}, api.ErrForm},
	} {
		text, e := Join(c.l)
		want(t, "Join of "+short(c.l), text, "", e, c.e)
	}
	for kind, list := range [][]string{
		{"", "1", "1x", n, "a b", "a ", " a", "=", "a=", "_", "é", "\xff", "#", "a#"},
		{"", "x", "-1", "01", "00", m, "1x", "1 ", " 1", "=", "٣"},
		{"", "x", "1", "!", "==", "=<", ":= ", " =", "<=>", "<>", "!!", "&", "#", "\xff", "--", " "},
	} {
		for _, x := range list {
			text, e := Join(append([]api.Token{tok(kind, x, 0)}, tokensOf("x", "=")...))
			want(t, "Join of "+short(x), text, "", e, api.ErrForm)
			text, e = Join([]api.Token{tok(api.TokenSign, "=", 0), tok(kind, x, 0), tok(9, "", 0), end})
			want(t, "Join of "+short(x), text, "", e, api.ErrForm)
		}
	}
}

func TestP8_2JoinLong(t *testing.T) {
	n := strings.Repeat("n", api.MaxName)
	full := slices.Repeat([]string{";"}, api.MaxText)
	text, e := Join(tokensOf(full...))
	want(t, "Join", text, strings.Repeat(";", api.MaxText), e, api.OK)
	for _, more := range [][]string{{";"}, {"x", "="}, slices.Repeat([]string{n}, 1000), slices.Repeat([]string{";"}, 1<<18)} {
		text, e = Join(tokensOf(append(slices.Clone(full), more...)...))
		want(t, "Join", text, "", e, api.ErrLong)
		text, e = Join(append([]api.Token{tok(api.TokenName, "!", 0)}, tokensOf(append(slices.Clone(full), more...)...)...))
		want(t, "Join", text, "", e, api.ErrForm)
		tokens := tokensOf(append(slices.Clone(full), more...)...)
		tokens[len(tokens)-2].Kind = 5
		text, e = Join(tokens)
		want(t, "Join", text, "", e, api.ErrArg)
	}
	// The spaces count, too.
	texts := slices.Repeat([]string{"x"}, api.MaxText/2)
	text, e = Join(tokensOf(append(texts, ";")...))
	want(t, "Join", text, strings.Repeat("x ", api.MaxText/2-1)+"x;", e, api.OK)
	text, e = Join(tokensOf(append(texts, "y")...))
	want(t, "Join", text, "", e, api.ErrLong)
}

func TestP8_2Place(t *testing.T) {
	src := "ab\n\nc\r\nd"
	wanted := [][2]int{{1, 1}, {1, 2}, {1, 3}, {2, 1}, {3, 1}, {3, 2}, {3, 3}, {4, 1}, {4, 2}}
	for at, place := range wanted {
		line, column, e := Place(src, at)
		want(t, "Place", [2]int{line, column}, place, e, api.OK)
	}
	for _, c := range []struct {
		src  string
		at   int
		want [2]int
		e    api.Errno
	}{
		{"", 0, [2]int{1, 1}, api.OK}, {"\n", 0, [2]int{1, 1}, api.OK}, {"\n", 1, [2]int{2, 1}, api.OK}, {"é\xff", 3, [2]int{1, 4}, api.OK}, {strings.Repeat("\n", api.MaxText), api.MaxText, [2]int{api.MaxText + 1, 1}, api.OK}, {strings.Repeat("#", api.MaxText), api.MaxText, [2]int{1, api.MaxText + 1}, api.OK},
		{"", 1, [2]int{}, api.ErrRange}, {"", -1, [2]int{}, api.ErrRange}, {"abc", 4, [2]int{}, api.ErrRange}, {"abc", math.MinInt, [2]int{}, api.ErrRange}, {"abc", math.MaxInt, [2]int{}, api.ErrRange}, {strings.Repeat("x", api.MaxText+1), 0, [2]int{}, api.ErrLong}, {strings.Repeat("x", api.MaxText+1), -1, [2]int{}, api.ErrLong},
	} {
		line, column, e := Place(c.src, c.at)
		want(t, "Place in "+short(c.src), [2]int{line, column}, c.want, e, c.e)
	}
	random := rand.New(rand.NewSource(2))
	for range 300 {
		src := randomText(random, 40)
		line, column := 1, 1
		for at := range len(src) + 1 {
			l, c, e := Place(src, at)
			want(t, "Place in "+short(src), [2]int{l, c}, [2]int{line, column}, e, api.OK)
			column++
			if at < len(src) && src[at] == '\n' {
				line, column = line+1, 1
			}
		}
	}
}

func TestP8_2Strip(t *testing.T) {
	full := strings.Repeat("x#", api.MaxText/2)
	for _, c := range []struct{ src, text string }{
		{"", ""}, {"#", ""}, {"x", "x"}, {"x # y", "x "}, {"x#\ny", "x\ny"}, {"#a\n#b\n", "\n\n"}, {"x#y#z\r\n#\nw\n", "x\n\nw\n"}, {"x\r# \xff\n\x00", "x\r\n\x00"}, {"01 ! 3x # é", "01 ! 3x "}, {"\n#", "\n"}, {"##\n##", "\n"}, {full, "x"}, {strings.Repeat("\n", api.MaxText), strings.Repeat("\n", api.MaxText)},
	} {
		text, e := Strip(c.src)
		want(t, "Strip of "+short(c.src), text, c.text, e, api.OK)
	}
	text, e := Strip(full + "#")
	want(t, "Strip of a long text", text, "", e, api.ErrLong)
	random := rand.New(rand.NewSource(3))
	for range 2000 {
		src := randomText(random, 30)
		text, e := Strip(src)
		want(t, "Strip of "+short(src), text, comment.ReplaceAllString(src, ""), e, api.OK)
	}
}

// TestP8_3 checks the consequences for random texts.
func TestP8_3(t *testing.T) {
	random := rand.New(rand.NewSource(4))
	before, scanned := "", []api.Token{tok(api.TokenEnd, "", 0)}
	for range 5000 {
		src := randomText(random, 30)
		tokens, at, e := Scan(src)
		stripped, f := Strip(src)
		alone, _, g := Scan(stripped)
		if f != api.OK || (e == api.OK) != (g == api.OK) || !slices.Equal(bare(tokens), bare(alone)) {
			t.Fatalf("%q has other tokens than %q without comments: %v and %v", src, stripped, tokens, alone)
		}
		if e != api.OK {
			checkPlace(t, src, at)
			continue
		}
		checkGaps(t, src, tokens)
		checkJoined(t, tokens)
		both, _, e := Scan(before + "\n" + src)
		want(t, "Scan of two texts", bare(both), bare(append(scanned[:len(scanned)-1:len(scanned)-1], tokens...)), e, api.OK)
		before, scanned = src, tokens
	}
}

// checkPlace checks that the offset of an error has a place.
func checkPlace(t *testing.T, src string, at int) {
	t.Helper()
	line, column, e := Place(src, at)
	if lines := strings.SplitAfter(src, "\n"); e != api.OK || !strings.HasPrefix(lines[line-1][column-1:], src[at:at+1]) {
		t.Fatalf("the offset %d of %q is not at %d, %d", at, src, line, column)
	}
}

// checkGaps checks that tokens stand at their offsets, with nothing but blanks and comments between them.
func checkGaps(t *testing.T, src string, tokens []api.Token) {
	t.Helper()
	end := 0
	for _, x := range tokens {
		if gap := src[end:x.At]; space.ReplaceAllString(gap, "") != "" || !strings.HasPrefix(src[x.At:], x.Text) {
			t.Fatalf("%q: the token %v is behind %q", src, x, gap)
		}
		end = x.At + len(x.Text)
	}
	if end != len(src) {
		t.Fatalf("%q ends at %d", src, end)
	}
}

// checkJoined checks that a joined text has the same tokens, and needs all of its spaces.
func checkJoined(t *testing.T, tokens []api.Token) {
	t.Helper()
	text, e := Join(tokens)
	again, _, f := Scan(text)
	want(t, "Scan of "+short(text), bare(again), bare(tokens), f, e)
	for i := range text {
		if text[i] != ' ' {
			continue
		}
		if fewer, _, e := Scan(text[:i] + text[i+1:]); e == api.OK && slices.Equal(bare(fewer), bare(tokens)) {
			t.Fatalf("%q has a space at %d that can be left out", text, i)
		}
	}
}
