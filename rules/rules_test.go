// Package rules: tests that the program keeps to its small part of Go, and that package api lies as it was given.
package rules

import (
	"crypto/sha256"
	"encoding/hex"
	"go/ast"
	"go/format"
	"go/parser"
	"go/token"
	"os"
	"path/filepath"
	"strings"
	"testing"
)

const apiSum = "5c67ff4831d3396ca3afdf37ad17843a6693193d45003c57c30cd3fef35e3690"

func TestApiLiesAsGiven(t *testing.T) {
	raw, err := os.ReadFile("../api/api.go")
	if err != nil {
		t.Fatal(err)
	}
	sum := sha256.Sum256(raw)
	if hex.EncodeToString(sum[:]) != apiSum {
		t.Error("api/api.go has been changed")
	}
	list, err := os.ReadDir("../api")
	if err != nil || len(list) != 1 {
		t.Errorf("something lies beside api/api.go: %v, %v", list, err)
	}
}

// programFiles tells the Go files of package depot and of all packages that it reaches; tests may use all of Go.
func programFiles(t *testing.T) []string {
	var list []string
	seen := map[string]bool{"depot": true}
	for todo := []string{"depot"}; len(todo) > 0; todo = todo[1:] {
		files, err := filepath.Glob(filepath.Join("..", todo[0], "*.go"))
		if err != nil || len(files) == 0 {
			t.Fatalf("no files of package %s: %v", todo[0], err)
		}
		for _, path := range files {
			if strings.HasSuffix(path, "_test.go") {
				continue
			}
			list = append(list, path)
			for _, name := range ownImports(t, path) {
				if !seen[name] {
					seen[name] = true
					todo = append(todo, name)
				}
			}
		}
	}
	return list
}

func ownImports(t *testing.T, path string) []string {
	file, err := parser.ParseFile(token.NewFileSet(), path, nil, parser.ImportsOnly)
	if err != nil {
		t.Fatal(err)
	}
	var list []string
	for _, spec := range file.Imports {
		name, own := strings.CutPrefix(strings.Trim(spec.Path.Value, `"`), "depot/")
		if own {
			list = append(list, name)
		}
	}
	return list
}

func TestLanguage(t *testing.T) {
	for _, path := range programFiles(t) {
		raw, err := os.ReadFile(path)
		if err != nil {
			t.Fatal(err)
		}
		neat, err := format.Source(raw)
		if err != nil || string(neat) != string(raw) {
			t.Errorf("%s: not in gofmt's layout (%v)", path, err)
		}
		for _, fault := range faults(path, string(raw)) {
			t.Error(fault)
		}
	}
}

// The test of the rules is worth something only if it finds what breaks them.
func TestFaultsAreFound(t *testing.T) {
	for _, code := range []string{
		`import "os"`, `var n int`, `var f = [1]float64{1}`, `var s = []int{1}`, `func f() { go f() }`, `func f() { defer f() }`, `func f() { panic(1) }`, `func f() { recover() }`, `func f(c chan int) {}`, `func f() { select {} }`, `var m map[int]int`, `func f() { m := map[int]int{} }`, `func f(x any) {}`, `func f() error { return nil }`, `type i interface{}`, `func f() { g := func() {} }`, `func f(g func()) {}`, `func f[T int](x T) {}`, `func f() { x := 1.5 }`, `func f(l []int) int { return cap(l) }`, "//go:noinline\nfunc f() {}", "func f() {" + strings.Repeat("\n", 45) + "}",
	} {
		if len(faults("x.go", "package x\n\n"+code+"\n")) == 0 {
			t.Errorf("no fault was found in %q", code)
		}
	}
	if list := faults("x.go", "package x\n\nimport (\n\t\"depot/api\"\n\t\"strconv\"\n)\n\nvar table = [2]int{1, 2}\n\nfunc f() string { return strconv.Itoa(api.None) }\n"); len(list) != 0 {
		t.Errorf("faults where there are none: %v", list)
	}
}

func faults(path, text string) []string {
	set := token.NewFileSet()
	file, err := parser.ParseFile(set, path, text, parser.ParseComments)
	if err != nil {
		return []string{err.Error()}
	}
	var list []string
	say := func(node ast.Node, what string) {
		list = append(list, set.Position(node.Pos()).String()+": "+what)
	}
	for _, spec := range file.Imports {
		name := strings.Trim(spec.Path.Value, `"`)
		if name != "strconv" && !strings.HasPrefix(name, "depot/") {
			say(spec, "import of "+name)
		}
	}
	for _, group := range file.Comments {
		for _, comment := range group.List {
			if strings.HasPrefix(comment.Text, "//go:") {
				say(comment, "a //go: line")
			}
		}
	}
	for _, decl := range file.Decls {
		if what := declFault(set, decl); what != "" {
			say(decl, what)
		}
	}
	ast.Inspect(file, func(node ast.Node) bool {
		if what := nodeFault(node); what != "" {
			say(node, what)
		}
		return true
	})
	return list
}

func declFault(set *token.FileSet, decl ast.Decl) string {
	if f, ok := decl.(*ast.FuncDecl); ok {
		if set.Position(f.End()).Line-set.Position(f.Pos()).Line+1 > 40 {
			return "a function of more than 40 lines"
		}
		if f.Type.TypeParams != nil {
			return "generics"
		}
		return ""
	}
	g := decl.(*ast.GenDecl)
	if g.Tok != token.VAR {
		return ""
	}
	for _, spec := range g.Specs {
		for _, value := range spec.(*ast.ValueSpec).Values {
			if lit, ok := value.(*ast.CompositeLit); ok {
				if array, ok := lit.Type.(*ast.ArrayType); ok && array.Len != nil {
					return ""
				}
			}
		}
	}
	return "a package-level variable that is no table"
}

func nodeFault(node ast.Node) string {
	switch n := node.(type) {
	case *ast.GoStmt, *ast.SelectStmt, *ast.ChanType, *ast.SendStmt:
		return "goroutine, channel or select"
	case *ast.DeferStmt:
		return "defer"
	case *ast.MapType:
		return "map"
	case *ast.InterfaceType:
		return "interface"
	case *ast.FuncLit:
		return "closure"
	case *ast.Field:
		if _, ok := n.Type.(*ast.FuncType); ok {
			return "function value"
		}
	case *ast.BasicLit:
		if n.Kind == token.FLOAT || n.Kind == token.IMAG {
			return "float"
		}
	case *ast.Ident:
		switch n.Name {
		case "panic", "recover", "cap", "any", "error", "float32", "float64", "complex64", "complex128", "unsafe", "reflect", "goto":
			return n.Name
		}
	}
	return ""
}
