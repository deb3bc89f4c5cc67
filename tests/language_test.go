package tests

import (
	"bytes"
	"go/ast"
	"go/format"
	"go/parser"
	"go/token"
	"os"
	"path/filepath"
	"strings"
	"testing"
)

const importsAllowed = " bytes cmp container/heap errors iter maps math math/bits slices sort strconv strings sync sync/atomic unicode unicode/utf8 "

// functionLines is how long a function may be.
const functionLines = 60

// The rules of the language page that can be told from the text of the program.
func TestTheProgramKeepsToItsLanguage(t *testing.T) {
	files, err := filepath.Glob("../impl/*.go")
	if err != nil || len(files) != 12 {
		t.Fatalf("files: %v %v", files, err)
	}
	for _, name := range files {
		source, err := os.ReadFile(name)
		if err != nil {
			t.Fatal(err)
		}
		if tidy, err := format.Source(source); err != nil || !bytes.Equal(tidy, source) {
			t.Errorf("%s is not laid out as gofmt does: %v", name, err)
		}
		if bytes.Contains(source, []byte("//go:")) {
			t.Errorf("%s has a //go: line", name)
		}
		fset := token.NewFileSet()
		file, err := parser.ParseFile(fset, name, source, 0)
		if err != nil {
			t.Fatal(err)
		}
		for _, i := range file.Imports {
			if !strings.Contains(importsAllowed, " "+strings.Trim(i.Path.Value, `"`)+" ") {
				t.Errorf("%s imports %s", name, i.Path.Value)
			}
		}
		for _, d := range file.Decls {
			if f, ok := d.(*ast.FuncDecl); ok && fset.Position(f.End()).Line-fset.Position(f.Pos()).Line >= functionLines {
				t.Errorf("%s: %s is too long", name, f.Name.Name)
			}
		}
	}
}
