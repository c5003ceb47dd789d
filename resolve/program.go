package resolve

import "surveyor/api"

// linker resolves the parts of a program, which know each other by names.
type linker struct {
	fields     map[string][]string // of all records, by their names
	indices    map[string]int      // of all procedures, by their names
	procedures []*procedure
}

func newLinker() *linker {
	return &linker{fields: map[string][]string{}, indices: map[string]int{}}
}

// program resolves all records, then the heads of all procedures, and then their bodies: what stands behind can be used before.
func (l *linker) program(t api.Syntax) api.Program {
	for _, record := range selected(t.Kids, isRecord) {
		l.addRecord(record)
	}
	for _, tree := range selected(t.Kids, isProcedure) {
		l.addProcedure(tree)
	}
	return api.Program{Procs: mapped(l.procedures, (*procedure).resolve)}
}

func (l *linker) addRecord(t api.Syntax) {
	must(len(l.fields) < api.MaxList, t.At, api.ErrMany)
	_, used := l.fields[t.Text]
	must(!used, t.At, api.ErrTwice)
	names := map[string]bool{}
	for i, field := range t.Kids {
		must(i < api.MaxFields, field.At, api.ErrMany)
		must(!names[field.Text], field.At, api.ErrTwice)
		names[field.Text] = true
	}
	l.fields[t.Text] = texts(t.Kids)
}

func (l *linker) addProcedure(t api.Syntax) {
	must(len(l.procedures) < api.MaxProcs, t.At, api.ErrMany)
	_, used := l.indices[t.Text]
	must(!used, t.At, api.ErrTwice)
	p := newProcedure(l, t)
	l.indices[t.Text] = len(l.procedures)
	l.procedures = append(l.procedures, p)
	p.readHead()
}
