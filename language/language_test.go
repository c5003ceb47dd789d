// Package language checks that the program keeps to the language that it is written in: few imports, short functions, no start-up code.
package language

import (
	"bytes"
	"go/ast"
	"go/format"
	"go/parser"
	"go/token"
	"go/types"
	"io/fs"
	"os"
	"path/filepath"
	"slices"
	"strconv"
	"strings"
	"testing"
)

const maxLines = 60

// allowed are the packages of the standard library that the program may import.
var allowed = strings.Fields("bytes cmp container/heap errors iter maps math math/bits slices sort strconv strings sync sync/atomic unicode unicode/utf8")

// sources returns the Go files of the program, without tests.
func sources(t *testing.T) []string {
	var files []string
	e := filepath.WalkDir("..", func(path string, entry fs.DirEntry, e error) error {
		if e != nil {
			return e
		}
		name := entry.Name()
		if entry.IsDir() && (name == "sharedtests" || strings.HasPrefix(name, ".") && name != "..") {
			return filepath.SkipDir
		}
		if strings.HasSuffix(name, ".go") && !strings.HasSuffix(name, "_test.go") {
			files = append(files, path)
		}
		return nil
	})
	if e != nil || len(files) == 0 {
		t.Fatalf("no sources: %v", e)
	}
	return files
}

func TestLanguage(t *testing.T) {
	for _, path := range sources(t) {
		text, e := os.ReadFile(path)
		if e != nil {
			t.Fatal(e)
		}
		files := token.NewFileSet()
		file, e := parser.ParseFile(files, path, text, parser.ParseComments)
		if e != nil {
			t.Fatal(e)
		}
		if formatted, e := format.Source(text); e != nil || !bytes.Equal(formatted, text) {
			t.Errorf("%s: not in the layout of gofmt", path)
		}
		if bytes.Contains(text, []byte("//go:")) {
			t.Errorf("%s: a directive", path)
		}
		for _, fault := range append(importFaults(file), declarationFaults(files, file)...) {
			t.Errorf("%s: %s", path, fault)
		}
	}
}

func importFaults(file *ast.File) []string {
	var faults []string
	for _, spec := range file.Imports {
		path, _ := strconv.Unquote(spec.Path.Value)
		if !strings.HasPrefix(path, "surveyor/") && !slices.Contains(allowed, path) {
			faults = append(faults, "import of "+path)
		}
	}
	return faults
}

func declarationFaults(files *token.FileSet, file *ast.File) []string {
	var faults []string
	for _, declaration := range file.Decls {
		switch d := declaration.(type) {
		case *ast.FuncDecl:
			if lines := files.Position(d.End()).Line - files.Position(d.Pos()).Line + 1; lines > maxLines {
				faults = append(faults, d.Name.Name+" has "+strconv.Itoa(lines)+" lines")
			}
		case *ast.GenDecl:
			if d.Tok == token.VAR {
				faults = append(faults, variableFaults(d)...)
			}
		}
	}
	return faults
}

// variableFaults are variables of the package level that are neither errors nor tables.
func variableFaults(declaration *ast.GenDecl) []string {
	var faults []string
	for _, spec := range declaration.Specs {
		variable := spec.(*ast.ValueSpec)
		name := variable.Names[0].Name
		if len(variable.Values) != len(variable.Names) {
			faults = append(faults, name+" has no initial value")
		}
		for _, value := range variable.Values {
			ast.Inspect(value, func(node ast.Node) bool {
				switch n := node.(type) {
				case *ast.CallExpr:
					if types.ExprString(n.Fun) != "errors.New" {
						faults = append(faults, name+" is computed by a call")
					}
				case *ast.FuncLit, *ast.MapType:
					faults = append(faults, name+" has a function or a map")
				}
				return true
			})
		}
	}
	return faults
}
