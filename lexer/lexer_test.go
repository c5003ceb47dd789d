package lexer

import (
	"math"
	"math/rand"
	"slices"
	"strings"
	"testing"

	"surveyor/api"
)

func TestP8_1Examples(t *testing.T) {
	tokens, at, e := Scan("x1 := 2; # two")
	want(t, "Scan", []any{tokens, at}, []any{[]api.Token{tok(api.TokenName, "x1", 0), tok(api.TokenSign, ":=", 3), tok(api.TokenNumber, "2", 6), tok(api.TokenSign, ";", 7), tok(api.TokenEnd, "", 14)}, 0}, e, api.OK)
	for _, c := range []struct {
		src string
		at  int
		e   api.Errno
	}{{"a := 01", 5, api.ErrForm}, {"3x", 0, api.ErrSyntax}, {"a ! b", 2, api.ErrSyntax}} {
		tokens, at, e := Scan(c.src)
		want(t, "Scan of "+c.src, []any{tokens, at}, []any{[]api.Token{}, c.at}, e, c.e)
	}
}

// checkScan compares the tokens of a text with those of the reference.
func checkScan(t *testing.T, src string) ([]api.Token, api.Errno) {
	t.Helper()
	tokens, at, e := Scan(src)
	wanted, place, f := scan(src)
	want(t, "Scan of "+short(src), []any{tokens, at}, []any{wanted, place}, e, f)
	return tokens, e
}

func TestP8_1Signs(t *testing.T) {
	all := strings.Fields(signs)
	for _, x := range all {
		tokens, e := checkScan(t, x)
		want(t, "Scan of "+x, tokens, []api.Token{tok(api.TokenSign, x, 0), tok(api.TokenEnd, "", len(x))}, e, api.OK)
		for _, y := range all {
			checkScan(t, x+y)
			checkScan(t, x+y+x)
			checkScan(t, x+"#"+y)
		}
	}
	tokens, _, e := Scan(":=:!==<==>=<>")
	want(t, "Scan of signs", tokens, []api.Token{tok(api.TokenSign, ":=", 0), tok(api.TokenSign, ":", 2), tok(api.TokenSign, "!=", 3), tok(api.TokenSign, "=", 5), tok(api.TokenSign, "<=", 6), tok(api.TokenSign, "=", 8), tok(api.TokenSign, ">=", 9), tok(api.TokenSign, "<", 11), tok(api.TokenSign, ">", 12), tok(api.TokenEnd, "", 13)}, e, api.OK)
}

// TestP8_1Bytes has each byte alone, beside others, and in a comment.
func TestP8_1Bytes(t *testing.T) {
	for b := range 256 {
		x := string([]byte{byte(b)})
		for _, src := range []string{x, "a" + x, x + "a", "1" + x, x + "1", "0" + x, "a" + x + "b", "<" + x, x + "=", " " + x + " ", "#" + x, "#" + x + "\n" + x, "é" + x, x + "\n#"} {
			checkScan(t, src)
		}
	}
}

func TestP8_1Words(t *testing.T) {
	n, m := strings.Repeat("n", api.MaxName), strings.Repeat("9", api.MaxDigits)
	for _, c := range []struct {
		src  string
		kind int
		at   int
		e    api.Errno
	}{
		{"a", api.TokenName, 0, api.OK}, {"Z9", api.TokenName, 0, api.OK}, {"while", api.TokenName, 0, api.OK}, {n, api.TokenName, 0, api.OK}, {n[1:] + "1", api.TokenName, 0, api.OK}, {n + "n", 0, 0, api.ErrName}, {n + "1", 0, 0, api.ErrName}, {"n" + m + m, 0, 0, api.ErrName},
		{"0", api.TokenNumber, 0, api.OK}, {"10", api.TokenNumber, 0, api.OK}, {m, api.TokenNumber, 0, api.OK}, {m + "9", 0, 0, api.ErrLarge}, {"00", 0, 0, api.ErrForm}, {"0" + m, 0, 0, api.ErrForm}, {"0" + m + m, 0, 0, api.ErrForm}, {"0x1", 0, 0, api.ErrSyntax}, {"00x", 0, 0, api.ErrSyntax}, {m + m + "x", 0, 0, api.ErrSyntax}, {"1e5", 0, 0, api.ErrSyntax},
		{"a_b", 0, 1, api.ErrSyntax}, {"a 3x !", 0, 2, api.ErrSyntax}, {"a ! 01", 0, 2, api.ErrSyntax}, {"a " + n + n + " !", 0, 2, api.ErrName}, {"\n\t#!\n 007", 0, 6, api.ErrForm}, {"x\xff", 0, 1, api.ErrSyntax},
	} {
		tokens, at, e := Scan(c.src)
		wanted := []api.Token{tok(c.kind, c.src, 0), tok(api.TokenEnd, "", len(c.src))}
		if c.e != api.OK {
			wanted = nil
		}
		want(t, "Scan of "+c.src, []any{tokens, at}, []any{wanted, c.at}, e, c.e)
	}
}

func TestP8_1Blanks(t *testing.T) {
	for _, src := range []string{"", " ", "\n", "#", "#\n", "# x", " # x # y \r\n\t", "\r\r"} {
		tokens, at, e := Scan(src)
		want(t, "Scan of "+short(src), []any{tokens, at}, []any{[]api.Token{tok(api.TokenEnd, "", len(src))}, 0}, e, api.OK)
	}
	for _, src := range []string{"a#b\nc", "a# \r\nb#", "1\t2\r3\n4 5", "a\v", "a\fb", "a\u00a0b", "a\u2028b", "\ufeffa", "a#\u2028b\n\x00"} {
		checkScan(t, src)
	}
}

func TestP8_1Long(t *testing.T) {
	for _, unit := range []string{" ", "#", "x ", ";", "#\n", "\xff"} {
		full := strings.Repeat(unit, api.MaxText)[:api.MaxText]
		checkScan(t, full)
		tokens, at, e := Scan(full + " ")
		want(t, "Scan of a long text", []any{tokens, at}, []any{[]api.Token{}, 0}, e, api.ErrLong)
		tokens, at, e = Scan("01" + full)
		want(t, "Scan of a long text", []any{tokens, at}, []any{[]api.Token{}, 0}, e, api.ErrLong)
	}
}

func TestP8_1Random(t *testing.T) {
	random := rand.New(rand.NewSource(1))
	for range 20000 {
		checkScan(t, randomText(random, 30))
	}
	for range 20000 {
		text := make([]byte, random.Intn(12))
		for i := range text {
			text[i] = byte(random.Intn(256))
		}
		checkScan(t, string(text))
	}
}

func TestP8_1Reserved(t *testing.T) {
	words := Words()
	want(t, "Words", words, strings.Fields(reserved), api.OK, api.OK)
	if !slices.IsSorted(words) {
		t.Errorf("Words: not in ascending order: %q", words)
	}
	words[0] = "x"
	want(t, "Words, after a change of its result", Words(), strings.Fields(reserved), api.OK, api.OK)
}

func TestP8_1Name(t *testing.T) {
	n := strings.Repeat("n", api.MaxName)
	for _, x := range []string{"a", "z", "A", "Z", "x1", "a0b9", "If", "iff", "whil", "whiles", "TRUE", "string", n, n[1:] + "0"} {
		want(t, "Name of "+short(x), Name(x), api.OK, 0, 0)
	}
	bad := []string{"", "1", "1a", "0", "_", "a_b", "a b", " a", "a ", "a\n", "a#", "a.b", "é", "aé", "٣", "a٣", "=", "a=", "\x00", "a\x00", "\xff", n + "n", n + "1", strings.Repeat("n", 100000)}
	for _, x := range append(bad, strings.Fields(reserved)...) {
		want(t, "Name of "+short(x), Name(x), api.ErrName, 0, 0)
	}
	for b := range 256 {
		x := string([]byte{byte(b)})
		for _, text := range []string{x, "q" + x, x + "q"} {
			wanted := api.ErrName
			if name.MatchString(text) {
				wanted = api.OK
			}
			want(t, "Name of "+short(text), Name(text), wanted, 0, 0)
		}
	}
}

func TestP8_1Number(t *testing.T) {
	m := strings.Repeat("9", api.MaxDigits)
	for _, c := range []struct {
		s string
		e api.Errno
	}{
		{"0", api.OK}, {"7", api.OK}, {"10", api.OK}, {"100", api.OK}, {m, api.OK}, {"", api.ErrSyntax}, {"-1", api.ErrSyntax}, {"+1", api.ErrSyntax}, {" 1", api.ErrSyntax}, {"1 ", api.ErrSyntax}, {"1.0", api.ErrSyntax}, {"x", api.ErrSyntax}, {"1x", api.ErrSyntax}, {"00x", api.ErrSyntax}, {m + m + "x", api.ErrSyntax}, {"٣", api.ErrSyntax}, {"\xff", api.ErrSyntax}, {"1/2", api.ErrSyntax}, {"1:", api.ErrSyntax},
		{"00", api.ErrForm}, {"01", api.ErrForm}, {"0" + m, api.ErrForm}, {"0" + m + m, api.ErrForm}, {m + "0", api.ErrLarge}, {m + m, api.ErrLarge}, {strings.Repeat("7", 100000), api.ErrLarge},
	} {
		want(t, "Number of "+short(c.s), Number(c.s), c.e, 0, 0)
	}
	for b := range 256 {
		for _, text := range []string{string([]byte{byte(b)}), string([]byte{'1', byte(b)}), string([]byte{byte(b), '1'})} {
			want(t, "Number of "+short(text), Number(text), errorOfNumber(text), 0, 0)
		}
	}
}

// TestSizes has arguments of any size for all functions (P1).
func TestSizes(t *testing.T) {
	huge := strings.Repeat("#\n(x", 1<<20)
	_, _, e := Scan(huge)
	want(t, "Scan", e, api.ErrLong, 0, 0)
	_, _, e = Place(huge, math.MinInt)
	want(t, "Place", e, api.ErrLong, 0, 0)
	_, e = Strip(huge)
	want(t, "Strip", e, api.ErrLong, 0, 0)
	_, e = Join([]api.Token{tok(api.TokenName, huge, math.MaxInt), tok(api.TokenEnd, "", math.MinInt)})
	want(t, "Join", e, api.ErrForm, 0, 0)
}
