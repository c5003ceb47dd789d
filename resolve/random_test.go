package resolve

import (
	"fmt"
	"math/rand"
	"slices"
	"strings"
	"testing"

	"surveyor/api"
	"surveyor/parser"
)

// TestP11_1Random compares random programs, right and wrong ones, with the reference. In half of them all nodes have offsets of their own, also where those of tokens would be the same.
func TestP11_1Random(t *testing.T) {
	random := rand.New(rand.NewSource(1))
	counts := map[api.Errno]int{}
	for i := range 8000 {
		wrong := []int{0, 1000, 100, 30, 10}[i%5]
		src := randomProgram(random, wrong)
		tree, _, e := parser.Parse(src)
		if e != api.OK && wrong > 0 {
			continue
		}
		if i%2 == 0 {
			spread(random, &tree)
		}
		p, at, e := referenceProgram(tree)
		want(t, src, programOf(tree), result{p, at, e})
		counts[e]++
		if wrong == 0 && e != api.OK {
			t.Errorf("%q should be right: %d, %d", src, at, e)
		}
	}
	for _, e := range []api.Errno{api.OK, api.ErrMany, api.ErrName, api.ErrTwice, api.ErrType, api.ErrUse, api.ErrShape, api.ErrRange} {
		if counts[e] < 20 {
			t.Errorf("only %d programs have the error %d", counts[e], e)
		}
	}
}

// rightProgram returns the text, the tree and the program of a random program without errors.
func rightProgram(t *testing.T, random *rand.Rand) (string, api.Syntax, api.Program) {
	t.Helper()
	src := randomProgram(random, 0)
	tree := parse(t, src)
	p, at, e := Program(tree)
	want(t, src, result{nil, at, e}, result{nil, 0, api.OK})
	return src, tree, p
}

// TestP11_3Offsets has programs with offsets that all differ: the offset of an error is one of them, and no other one of the tree matters.
func TestP11_3Offsets(t *testing.T) {
	random := rand.New(rand.NewSource(2))
	for range 3000 {
		src := randomProgram(random, 20)
		tree, _, e := parser.Parse(src)
		if e != api.OK {
			continue
		}
		spread(random, &tree)
		before := programOf(tree)
		index := slices.IndexFunc(nodes(&tree), func(x *api.Syntax) bool { return x.At == before.at })
		if (before.e == api.OK) != (index < 0) {
			t.Errorf("%q: the error %d at %d, node %d", src, before.e, before.at, index)
		}
		spread(random, &tree)
		after := programOf(tree)
		want(t, src, after.e, before.e)
		if index >= 0 {
			want(t, src, after.at, nodes(&tree)[index].At)
		}
	}
}

// rename changes the texts of the nodes of some kinds. Fields are NodeName below a NodePlace or a NodeRecord, records are NodeName below a NodeParam.
func rename(t *api.Syntax, from, to string, kinds ...int) {
	if t.Text == from && slices.Contains(kinds, t.Kind) {
		t.Text = to
	}
	for i := range t.Kids {
		if t.Kids[i].Kind != api.NodeName || t.Kind == api.NodeParam {
			rename(&t.Kids[i], from, to, kinds...)
		}
	}
}

// TestP11_3Names gives new names to variables, records and procedures.
func TestP11_3Names(t *testing.T) {
	random := rand.New(rand.NewSource(3))
	for range 1000 {
		src, tree, p := rightProgram(t, random)
		for _, record := range []string{"p", "q", "r"} {
			rename(&tree, record, "new"+record, api.NodeRecord, api.NodeName)
		}
		want(t, src, programOf(tree), result{p, 0, api.OK})
		for i := range p.Procs {
			name := p.Procs[i].Name
			rename(&tree, name, "new"+name, api.NodeProc, api.NodeCall)
			p.Procs[i].Name = "new" + name
		}
		want(t, src, programOf(tree), result{p, 0, api.OK})
		for i := range p.Procs {
			if len(p.Procs[i].Vars) == 0 {
				continue
			}
			name, _, _ := strings.Cut(p.Procs[i].Vars[random.Intn(len(p.Procs[i].Vars))], ".")
			all := selected(tree.Kids, isProcedure)
			rename(&all[i], name, "newname", api.NodeParam, api.NodePlace)
			for j, v := range p.Procs[i].Vars {
				if first, field, isField := strings.Cut(v, "."); first == name && isField {
					p.Procs[i].Vars[j] = "newname." + field
				} else if first == name {
					p.Procs[i].Vars[j] = "newname"
				}
			}
			tree.Kids = append(selected(tree.Kids, isRecord), all...)
		}
		want(t, src, programOf(tree), result{p, 0, api.OK})
	}
}

// TestP11_3Behind adds a procedure behind all others.
func TestP11_3Behind(t *testing.T) {
	random := rand.New(rand.NewSource(4))
	for range 1000 {
		src, _, p := rightProgram(t, random)
		for _, more := range []string{"proc new() { }", "import proc new(a) returns (b);", "proc new(a) returns (b) { var c; array d[2]; b := new(a + c); d[a] := b; }"} {
			got, at, e := Program(parse(t, src+more))
			want(t, src, result{nil, at, e}, result{nil, 0, api.OK})
			want(t, src, got.Procs[:len(p.Procs)], p.Procs)
			want(t, src, len(got.Procs), len(p.Procs)+1)
		}
		wrong := programOf(parse(t, src+"proc new(a) { a := 1; }"))
		want(t, src, wrong, result{api.Program{}, len(src) + 14, api.ErrUse})
	}
}

// TestP11_3Conditions puts conditions into parentheses, and behind not twice.
func TestP11_3Conditions(t *testing.T) {
	random := rand.New(rand.NewSource(5))
	names := []string{"a", "b", "x.u"}
	for range 5000 {
		s := &source{random: random, wrong: 40 * random.Intn(2), types: map[string]string{"x": "p"}, visible: []string{"a", "b", "x"}, records: map[string][]string{"p": {"u"}}}
		s.condition(3)
		src := s.text.String()
		tree, _, e := parser.Cond(src)
		if e != api.OK {
			continue
		}
		alone := condOf(tree, names)
		inside := condOf(condTree(t, "("+src+")"), names)
		want(t, src, inside.value, alone.value)
		want(t, src, inside.e, alone.e)
		twice := condOf(condTree(t, "not not ("+src+")"), names)
		want(t, src, twice.e, alone.e)
		if alone.e == api.OK {
			want(t, src, twice.value, connect(api.CondNot, connect(api.CondNot, alone.value.(api.Cond))))
			continue
		}
		at := alone.at + 9
		if alone.e == api.ErrMany || alone.e == api.ErrDeep {
			at = 0 // an error of the whole condition
		}
		want(t, src, []int{inside.at, twice.at}, []int{alone.at + 1, at})
	}
}

// TestP11_3Variables has the variables that a program without records names.
func TestP11_3Variables(t *testing.T) {
	random := rand.New(rand.NewSource(6))
	count := 0
	for range 2000 {
		src, tree, p := rightProgram(t, random)
		if len(selected(tree.Kids, isRecord)) > 0 {
			continue
		}
		count++
		for i, proc := range selected(tree.Kids, isProcedure) {
			var list []string
			for _, x := range nodes(&proc) {
				if x.Kind == api.NodeParam {
					list = append(list, x.Text)
				}
			}
			want(t, src, p.Procs[i].Vars, list)
			want(t, src, []int{p.Procs[i].Params, p.Procs[i].Results}, []int{len(proc.Kids[0].Kids), len(proc.Kids[1].Kids)})
		}
	}
	if count < 100 {
		t.Errorf("only %d programs without records", count)
	}
}

// TestMemory changes trees and names behind a call, and results, of which no two parts share memory (P1).
func TestMemory(t *testing.T) {
	random := rand.New(rand.NewSource(7))
	for range 300 {
		src, tree, p := rightProgram(t, random)
		before := fmt.Sprintf("%+v", p)
		for _, x := range nodes(&tree) {
			x.Text, x.At, x.Kind = "changed", -1, -1
			clear(x.Kids)
		}
		want(t, src, fmt.Sprintf("%+v", p), before)
		for i := range p.Procs {
			// What is added behind a list appears nowhere else.
			_ = append(p.Procs[i].Vars, "added")
			_ = append(p.Procs[i].Arrays, api.Array{Name: "added"})
			_ = append(p.Procs[i].Body, api.Stmt{Op: 99})
		}
		want(t, src, fmt.Sprintf("%+v", p), before)
	}
	tree := parse(t, "record p { u, v } proc f(a : p, b : p) { } proc g() { }")
	list, _ := Fields(tree, "p")
	declared, _, _ := Names(tree)
	list[0], declared[0] = "changed", "changed"
	want(t, "Fields", fieldsOf(tree, "p"), "[u v] 0")
	want(t, "Names", namesOf(tree), "[f g] [] 0")
}
