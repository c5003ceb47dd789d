package resolve

import (
	"fmt"
	"math/rand"
	"slices"
	"strings"
	"testing"

	"surveyor/api"
	"surveyor/parser"
)

// sketch is what is known of a procedure before its text is written: the types of its parameters and results (empty for integers).
type sketch struct {
	name            string
	params, results []string
	isImport        bool
}

// source writes random texts of programs, in which each choice is a wrong one with a chance of one in wrong (never if it is 0).
type source struct {
	random  *rand.Rand
	wrong   int
	text    strings.Builder
	records map[string][]string
	procs   []sketch

	// Of the procedure that is being written:
	names   []string // of variables and arrays
	types   map[string]string
	params  map[string]bool
	arrays  []string
	visible []string
	rest    int // how many statements may follow
}

func (s *source) chance(n int) bool { return s.random.Intn(n) == 0 }

func (s *source) isWrong() bool { return s.wrong > 0 && s.chance(s.wrong) }

func (s *source) write(words ...string) {
	for _, w := range words {
		s.text.WriteString(w + " ")
	}
}

// pick returns an element, or a wrong one. There is always one.
func (s *source) pick(list []string) string {
	if len(list) == 0 || s.isWrong() {
		return strings.Fields("a b c d t s p q f g x.u zz")[s.random.Intn(12)]
	}
	return list[s.random.Intn(len(list))]
}

// fresh returns a name that has not been used in the procedure.
func (s *source) fresh() string {
	for i := 0; ; i++ {
		name := string(rune('a'+i%26)) + strings.Repeat("1", i/26)
		if s.isWrong() || s.chance(2) && !slices.Contains(s.names, name) {
			s.names = append(s.names, name)
			return name
		}
	}
}

// variables writes parameters, and returns their names.
func (s *source) variables(types []string) []string {
	var list []string
	for i, record := range types {
		if i > 0 {
			s.write(",")
		}
		name := s.fresh()
		s.write(name)
		s.types[name] = record
		list = append(list, name)
		if record != "" {
			s.write(":", s.pick([]string{record}))
		}
	}
	return list
}

// randomTypes returns types for at most n variables.
func (s *source) randomTypes(n int) []string {
	var list []string
	for range s.random.Intn(4) {
		record := ""
		if names := sortedKeys(s.records); len(names) > 0 && s.chance(3) {
			record = names[s.random.Intn(len(names))]
		}
		n -= max(1, len(s.records[record]))
		if n >= 0 || s.isWrong() {
			list = append(list, record)
		}
	}
	return list
}

func sortedKeys(m map[string][]string) []string {
	var list []string
	for k := range m {
		list = append(list, k)
	}
	slices.Sort(list)
	return list
}

// randomProgram returns a text.
func randomProgram(random *rand.Rand, wrong int) string {
	s := &source{random: random, wrong: wrong, records: map[string][]string{}}
	for _, name := range []string{"p", "q", "r"}[:random.Intn(4)] {
		fields := strings.Fields("u v w x")[:1+random.Intn(3)]
		s.records[name] = fields
		if s.isWrong() {
			fields = append(fields, s.pick(fields))
		}
		s.write("record", s.pick([]string{name}), "{", strings.Join(fields, ", "), "}")
	}
	for _, name := range strings.Fields("f g main h")[:1+random.Intn(4)] {
		s.procs = append(s.procs, sketch{name, s.randomTypes(4), s.randomTypes(3), s.chance(5)})
	}
	for _, p := range s.procs {
		s.procedure(p)
	}
	return s.text.String()
}

func (s *source) procedure(p sketch) {
	s.names, s.arrays, s.types, s.params, s.rest = nil, nil, map[string]string{}, map[string]bool{}, 14
	if p.isImport {
		s.write("import")
	}
	s.write("proc", s.pick([]string{p.name}), "(")
	s.visible = s.variables(p.params)
	for _, name := range s.visible {
		s.params[name] = true
	}
	s.write(")")
	params := s.visible
	if len(p.results) > 0 {
		s.write("returns (")
		s.visible = append(slices.Clone(params), s.variables(p.results)...)
		s.write(")")
	}
	all := s.visible
	if s.visible = params; s.chance(3) {
		s.write("requires")
		s.condition(2)
	}
	if s.visible = all; s.chance(3) {
		s.write("ensures")
		s.condition(2)
	}
	if p.isImport {
		s.write(";")
		return
	}
	s.write("{")
	for s.chance(2) {
		s.declaration()
	}
	s.statements(1)
	s.write("}")
}

func (s *source) declaration() {
	used := 0
	for _, name := range s.visible {
		used += max(1, len(s.records[s.types[name]]))
	}
	if types := s.randomTypes(12 - used); len(types) > 0 && s.chance(2) {
		s.write("var")
		s.visible = append(slices.Clone(s.visible), s.variables(types)...)
		s.write(";")
	} else if len(s.arrays) < 4 || s.isWrong() {
		name, length := s.fresh(), 1+s.random.Intn(32)
		if s.isWrong() {
			length = 33 * s.random.Intn(2)
		}
		s.arrays = append(s.arrays, name)
		s.write("array", name, "[", fmt.Sprint(length), "]", ";")
	}
}

func (s *source) statements(depth int) {
	for s.chance(2) || depth == 1 && s.rest > 7 {
		if s.rest--; s.rest >= 0 {
			s.statement(depth)
		}
	}
}

// integers returns the places of integers, of which parameters are those that may not be assigned.
func (s *source) integers(withParams bool) []string {
	var list []string
	for _, name := range s.visible {
		if s.params[name] && !withParams {
			continue
		}
		if s.types[name] == "" {
			list = append(list, name)
		}
		for _, field := range s.records[s.types[name]] {
			list = append(list, name+" . "+field)
		}
	}
	return list
}

// ofType returns the places of a type.
func (s *source) ofType(record string, withParams bool) []string {
	if record == "" {
		return s.integers(withParams)
	}
	var list []string
	for _, name := range s.visible {
		if s.types[name] == record && (withParams || !s.params[name]) {
			list = append(list, name)
		}
	}
	return list
}

func (s *source) statement(depth int) {
	targets := s.integers(false)
	switch kind := s.random.Intn(10); {
	case kind == 0 && depth < 6:
		s.write("while")
		s.condition(2)
		s.block(depth)
	case kind == 1 && depth < 6:
		s.choice(depth)
	case kind == 2 && len(s.arrays) > 0:
		s.write(s.pick(s.arrays), "[")
		s.expression(3)
		s.write("] :=")
		s.expression(3)
		s.write(";")
	case kind == 3 && len(s.arrays) > 0 && len(targets) > 0:
		s.write(s.pick(targets), ":=", s.pick(s.arrays), "[")
		s.expression(3)
		s.write("] ;")
	case kind == 4 && len(targets) > 0:
		s.write(s.pick(targets), ":= input ;")
	case kind <= 6:
		s.call()
	case kind <= 8 && len(s.visible) > 0:
		s.assignment()
	default:
		s.write([]string{"assert", "assume"}[s.random.Intn(2)])
		s.condition(3)
		s.write(";")
	}
}

func (s *source) block(depth int) {
	s.write("{")
	s.statements(depth + 1)
	s.write("}")
}

func (s *source) choice(depth int) {
	s.write("if")
	s.condition(2)
	s.block(depth)
	if s.chance(2) {
		s.write("else")
		if s.chance(2) {
			s.choice(depth + 1)
		} else {
			s.block(depth)
		}
	}
}

func (s *source) assignment() {
	record := s.types[s.visible[s.random.Intn(len(s.visible))]]
	targets := s.ofType(record, false)
	if len(targets) == 0 {
		s.write("assume true ;")
		return
	}
	s.write(s.pick(targets), ":=")
	s.argument(record)
	s.write(";")
}

func (s *source) argument(record string) {
	if record == "" || s.isWrong() {
		s.expression(3)
		return
	}
	s.write(s.pick(s.ofType(record, true)))
}

// call writes a call if there are places for its results.
func (s *source) call() {
	p := s.procs[s.random.Intn(len(s.procs))]
	var places []string
	for _, record := range p.results {
		list := slices.DeleteFunc(s.ofType(record, false), func(x string) bool {
			name, _, _ := strings.Cut(x, " ")
			return slices.ContainsFunc(places, func(y string) bool { return y == x || y == name || strings.HasPrefix(y, x+" ") })
		})
		if len(list) == 0 {
			s.write("assume true ;")
			return
		}
		places = append(places, s.pick(list))
	}
	for _, record := range p.params {
		if len(s.ofType(record, true)) == 0 && record != "" {
			s.write("assume true ;")
			return
		}
	}
	if len(places) > 0 {
		s.write(strings.Join(places, ", "), ":=")
	}
	s.write(s.pick([]string{p.name}), "(")
	for i, record := range p.params {
		if i > 0 {
			s.write(",")
		}
		s.argument(record)
	}
	if s.isWrong() && len(p.params) > 0 {
		s.write(", 1")
	}
	s.write(") ;")
}

func (s *source) condition(size int) {
	switch kind := s.random.Intn(7); {
	case kind == 0:
		s.write([]string{"true", "false"}[s.random.Intn(2)])
	case kind == 1 && size > 0:
		s.write("not (")
		s.condition(size - 1)
		s.write(")")
	case kind <= 3 && size > 0:
		s.write("(")
		s.condition(size - 1)
		s.write([]string{"and", "or"}[s.random.Intn(2)])
		s.condition(size - 1)
		s.write(")")
	default:
		if s.isWrong() {
			s.expression(size)
			return
		}
		s.expression(1)
		s.write(strings.Fields("= != < <= > >=")[s.random.Intn(6)])
		s.expression(1)
	}
}

func (s *source) expression(size int) {
	places := s.integers(true)
	switch kind := s.random.Intn(6); {
	case s.isWrong():
		s.write([]string{"true", "(1 = 2)", "(a < 1)", "(not (1 = 1))", chain(17, " + ", "1"), chain(33, " - ", "2")}[s.random.Intn(6)])
	case kind <= 1 && size > 0:
		s.write("(")
		s.expression(size - 1)
		s.write(strings.Fields("+ - * / %")[s.random.Intn(5)])
		s.expression(size - 1)
		s.write(")")
	case kind == 2 && size > 0:
		s.write("-")
		s.expression(size - 1)
	case kind <= 4 && len(places) > 0:
		s.write(s.pick(places))
	default:
		s.write(fmt.Sprint(s.random.Intn(100)))
	}
}

// parse returns the tree of a program.
func parse(t *testing.T, src string) api.Syntax {
	t.Helper()
	tree, at, e := parser.Parse(src)
	if e != api.OK {
		t.Fatalf("%q has no tree: %d, %d", src, at, e)
	}
	return tree
}

// spread gives all nodes different offsets, in a random order.
func spread(random *rand.Rand, t *api.Syntax) {
	all := nodes(t)
	for i, n := range random.Perm(len(all)) {
		all[i].At = 1 + n
	}
}

// nodes returns all nodes in preorder.
func nodes(t *api.Syntax) []*api.Syntax {
	list := []*api.Syntax{t}
	for i := range t.Kids {
		list = append(list, nodes(&t.Kids[i])...)
	}
	return list
}
