package resolve

import (
	"slices"

	"surveyor/api"
)

// group is what a place stands for: all variables of a name, or one of them.
type group struct {
	record      string // of which all variables are the fields; empty for an integer
	first, size int
}

// indices returns the variables.
func (g group) indices() []int {
	list := make([]int, g.size)
	for i := range list {
		list[i] = g.first + i
	}
	return list
}

// scope knows what the names in a procedure stand for.
type scope struct {
	fields  map[string][]string // of all records, by their names
	groups  map[string]group    // of all variables, by the names that they are declared with
	vars    []string
	arrays  []api.Array
	visible int // how many of the variables may be mentioned
}

func newScope(fields map[string][]string) scope {
	return scope{fields: fields, groups: map[string]group{}}
}

// declare adds the variables of a parameter, of a result or of a declaration.
func (s *scope) declare(t api.Syntax) group {
	g := group{first: len(s.vars), size: 1}
	names := []string{t.Text}
	for _, record := range t.Kids {
		fields, known := s.fields[record.Text]
		must(known, record.At, api.ErrName)
		g.record, g.size = record.Text, len(fields)
		names = mapped(fields, func(field string) string { return join(t.Text, field) })
	}
	must(!s.isUsed(t.Text), t.At, api.ErrTwice)
	must(len(s.vars)+g.size <= api.MaxVars, t.At, api.ErrMany)
	s.groups[t.Text] = g
	s.vars = append(s.vars, names...)
	return g
}

// declareArray adds an array.
func (s *scope) declareArray(t api.Syntax) {
	must(!s.isUsed(t.Text), t.At, api.ErrTwice)
	must(len(s.arrays) < api.MaxArrays, t.At, api.ErrMany)
	must(t.Num >= 1 && t.Num <= api.MaxLen, t.At, api.ErrRange)
	s.arrays = append(s.arrays, api.Array{Name: t.Text, Len: t.Num})
}

// isUsed reports whether variables or an array have a name.
func (s *scope) isUsed(name string) bool {
	_, used := s.groups[name]
	return used || s.arrayIndex(name) >= 0
}

func (s *scope) arrayIndex(name string) int {
	return slices.IndexFunc(s.arrays, func(a api.Array) bool { return a.Name == name })
}

// array returns the index of the array with a name, which stands at an offset.
func (s *scope) array(name string, at int) int {
	i := s.arrayIndex(name)
	must(i >= 0, at, api.ErrName)
	return i
}

// place returns what a place stands for.
func (s *scope) place(t api.Syntax) group {
	g, known := s.groups[t.Text]
	must(known, t.At, api.ErrName)
	for _, field := range t.Kids {
		must(g.record != "", t.At, api.ErrType)
		i := slices.Index(s.fields[g.record], field.Text)
		must(i >= 0, field.At, api.ErrName)
		g = group{first: g.first + i, size: 1}
	}
	must(g.first < s.visible, t.At, api.ErrUse)
	return g
}

// integer returns the variable of a place of an integer.
func (s *scope) integer(t api.Syntax) int {
	g := s.place(t)
	must(g.record == "", t.At, api.ErrType)
	return g.first
}
