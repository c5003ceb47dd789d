package tree

import (
	"fmt"
	"strings"
	"testing"
)

// node is a tree of names.
type node struct {
	name string
	kids []node
}

func kidsOf(n node) []node { return n.kids }

func isEqual(a, b node) bool { return a.name == b.name }

// read returns the trees of a text: each name is a letter, and what is below it stands in parentheses.
func read(text string) []node {
	list, _ := readList(text)
	return list
}

func readList(text string) ([]node, string) {
	var list []node
	for text != "" && text[0] != ')' {
		n := node{name: text[:1]}
		text = text[1:]
		if strings.HasPrefix(text, "(") {
			n.kids, text = readList(text[1:])
			text = text[1:]
		}
		list = append(list, n)
	}
	return list, text
}

// walked returns the names in preorder with their depths, up to a name.
func walked(list []node, last string) string {
	out := ""
	for n, depth := range Preorder(list, kidsOf) {
		out += fmt.Sprint(n.name, depth, " ")
		if n.name == last {
			break
		}
	}
	return out
}

func TestPreorder(t *testing.T) {
	for _, c := range []struct{ text, last, walked string }{
		{"", "", ""}, {"a", "", "a1 "}, {"abc", "", "a1 b1 c1 "}, {"a(bc)", "", "a1 b2 c2 "}, {"a(b(c)d)e", "", "a1 b2 c3 d2 e1 "}, {"a(b(c(d)))e(f)", "", "a1 b2 c3 d4 e1 f2 "},
		{"a(b(c)d)e", "a", "a1 "}, {"a(b(c)d)e", "c", "a1 b2 c3 "}, {"a(b(c)d)e", "d", "a1 b2 c3 d2 "},
	} {
		list := read(c.text)
		for range 2 {
			if got := walked(list, c.last); got != c.walked {
				t.Errorf("%s: got %s, want %s", c.text, got, c.walked)
			}
		}
	}
}

func TestSame(t *testing.T) {
	texts := []string{"", "a", "b", "ab", "ba", "aa", "a(b)", "a(c)", "a(bc)", "a(cb)", "a(b(c))", "a(b)c", "ac(b)", "a(b(c)d)", "a(bd(c))", "a(b(c)d)e"}
	for _, a := range texts {
		for _, b := range texts {
			x, y := read(a), read(b)
			if Same(x, y, kidsOf, isEqual) != (a == b) {
				t.Errorf("Same of %s and %s", a, b)
			}
			if fmt.Sprint(x, y) != fmt.Sprint(read(a), read(b)) {
				t.Errorf("Same changes %s or %s", a, b)
			}
		}
	}
	// Lists with room behind them are not written to.
	list := read("a(b)c(d)")
	if part := list[:1]; !Same(part, read("a(b)"), kidsOf, isEqual) || list[1].name != "c" {
		t.Errorf("Same changes what is behind a list")
	}
}

func TestDeep(t *testing.T) {
	const depth = 1000000
	n := node{name: "a"}
	for range depth - 1 {
		n = node{"b", []node{n}}
	}
	deepest := 0
	for _, depth := range Preorder([]node{n}, kidsOf) {
		deepest = max(deepest, depth)
	}
	if deepest != depth {
		t.Errorf("depth %d", deepest)
	}
	if !Same([]node{n}, []node{n}, kidsOf, isEqual) || Same([]node{n}, n.kids, kidsOf, isEqual) {
		t.Errorf("Same of deep trees")
	}
}
