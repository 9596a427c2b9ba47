// Package rules holds tests of what the document, and the language that it asks for, say of all packages together.
package rules

import (
	"bytes"
	"go/ast"
	"go/format"
	"go/parser"
	"go/token"
	"io/fs"
	"os"
	"path"
	"path/filepath"
	"slices"
	"strconv"
	"strings"
	"testing"
)

const module = "sideband"

// layers are the packages, from the lowest one on, and which packages each may call: the document's map, and those of whose types its calls are.
var layers = map[string]string{
	"api":      "",
	"arith":    "",
	"logs":     "arith",
	"check":    "",
	"bands":    "arith",
	"model":    "api",
	"rangeenc": "api model",
	"rangedec": "api model",
	"lapped":   "api arith bands",
	"overlap":  "api arith bands lapped",
	"energy":   "api bands model rangeenc rangedec lapped",
	"mask":     "api bands energy",
	"quant":    "api arith bands model rangeenc rangedec energy mask",
	"coder":    "api bands rangeenc overlap energy mask quant",
	"player":   "api rangedec overlap energy mask quant coder",
	"conceal":  "api player",
	"word":     "api",
	"request":  "api word",
	"reply":    "api word",
	"packet":   "api check coder conceal",
	"weave":    "api word",
	"ring":     "api conceal",
	"queue":    "api",
	"mount":    "api bands mask coder conceal word ring",
	"radio":    "api bands request reply packet weave queue mount",
}

// library is what may be used of Go's library: a package's names, or all of them.
var library = map[string]string{
	"bytes": "", "cmp": "", "container/heap": "", "errors": "", "maps": "", "math": "", "math/bits": "", "slices": "", "sort": "",
	"strconv": "", "strings": "", "sync/atomic": "", "unicode": "", "unicode/utf8": "",
	"iter": "Seq Seq2",
	"sync": "Mutex RWMutex WaitGroup Once",
}

type source struct {
	path string // from the module's root on, with slashes
	text []byte
	set  *token.FileSet
	tree *ast.File
}

func (s source) pack() string { return path.Dir(s.path) }

func (s source) line(n ast.Node) string {
	return s.path + ":" + strconv.Itoa(s.set.Position(n.Pos()).Line)
}

// sources are the program's Go files without its tests; the tests that are laid beside it are none of it.
func sources(t *testing.T) []source {
	t.Helper()
	root := os.DirFS("..")
	var l []source
	err := fs.WalkDir(root, ".", func(path string, d fs.DirEntry, err error) error {
		switch {
		case err != nil:
			return err
		case d.IsDir() && isLaidBeside(path):
			return fs.SkipDir
		case d.IsDir() || !strings.HasSuffix(path, ".go") || strings.HasSuffix(path, "_test.go"):
			return nil
		}
		s := source{path: path, set: token.NewFileSet()}
		if s.text, err = fs.ReadFile(root, path); err != nil {
			return err
		}
		s.tree, err = parser.ParseFile(s.set, path, s.text, parser.ParseComments)
		l = append(l, s)
		return err
	})
	if err != nil || len(l) < len(layers) {
		t.Fatal(len(l), "sources:", err)
	}
	return l
}

// isLaidBeside tells of a folder whether it is none of the program's: its packages have no such names.
func isLaidBeside(path string) bool {
	return path == ".git" || path == "sharedtests" || path == "form" || path == "try" || strings.HasPrefix(path, module)
}

// P2 wants it: each layer stands on those alone that the map names, and on no clock, random source, file or network.
func TestImports(t *testing.T) {
	for _, s := range sources(t) {
		mayCall, isLayer := layers[s.pack()]
		for _, i := range s.tree.Imports {
			path, err := strconv.Unquote(i.Path.Value)
			if err != nil {
				t.Fatal(err)
			}
			own, isOwn := strings.CutPrefix(path, module+"/")
			if _, ok := library[path]; !ok && !isOwn {
				t.Errorf("%s: %s is not to be used", s.line(i), path)
			}
			if _, ok := layers[own]; ok && isLayer && !slices.Contains(strings.Fields(mayCall), own) {
				t.Errorf("%s: %s doesn't stand on %s", s.line(i), s.pack(), own)
			}
		}
	}
}

func TestNamesOfTheLibrary(t *testing.T) {
	for _, s := range sources(t) {
		ast.Inspect(s.tree, func(n ast.Node) bool {
			x, ok := n.(*ast.SelectorExpr)
			if !ok {
				return true
			}
			pack, ok := x.X.(*ast.Ident)
			if !ok || pack.Name != "sync" && pack.Name != "iter" {
				return true
			}
			if !slices.Contains(strings.Fields(library[pack.Name]), x.Sel.Name) {
				t.Errorf("%s: %s.%s is not to be used", s.line(x), pack.Name, x.Sel.Name)
			}
			return true
		})
	}
}

func TestNoPrinting(t *testing.T) {
	for _, s := range sources(t) {
		ast.Inspect(s.tree, func(n ast.Node) bool {
			if x, ok := n.(*ast.CallExpr); ok {
				if f, ok := x.Fun.(*ast.Ident); ok && (f.Name == "print" || f.Name == "println") {
					t.Errorf("%s: it prints", s.line(x))
				}
			}
			return true
		})
	}
}

// P2 wants it: what stands at package level has a value of its own, and no call makes it but errors.New.
func TestPackageLevel(t *testing.T) {
	for _, s := range sources(t) {
		for _, d := range s.tree.Decls {
			g, ok := d.(*ast.GenDecl)
			if !ok || g.Tok != token.VAR {
				continue
			}
			for _, spec := range g.Specs {
				checkVariable(t, s, spec.(*ast.ValueSpec))
			}
		}
	}
}

func checkVariable(t *testing.T, s source, v *ast.ValueSpec) {
	if len(v.Values) != len(v.Names) {
		t.Errorf("%s: a variable without a value of its own", s.line(v))
	}
	ast.Inspect(v, func(n ast.Node) bool {
		switch x := n.(type) {
		case *ast.MapType, *ast.FuncLit, *ast.ChanType:
			t.Errorf("%s: a map, function or channel at package level", s.line(x))
		case *ast.UnaryExpr:
			if x.Op == token.AND {
				t.Errorf("%s: an address at package level", s.line(x))
			}
		case *ast.CallExpr:
			if !isErrorsNew(x) {
				t.Errorf("%s: a call at package level", s.line(x))
			}
		}
		return true
	})
}

func isErrorsNew(call *ast.CallExpr) bool {
	f, ok := call.Fun.(*ast.SelectorExpr)
	if !ok {
		return false
	}
	pack, ok := f.X.(*ast.Ident)
	return ok && pack.Name == "errors" && f.Sel.Name == "New"
}

func TestLayout(t *testing.T) {
	const mostLines = 65 // some 60
	for _, s := range sources(t) {
		if made, err := format.Source(s.text); err != nil || !bytes.Equal(made, s.text) {
			t.Errorf("%s: not gofmt's layout", s.path)
		}
		for _, c := range s.tree.Comments {
			for _, line := range c.List {
				if strings.HasPrefix(line.Text, "//go:") || strings.HasPrefix(line.Text, "// +build") {
					t.Errorf("%s: a line for the compiler", s.line(line))
				}
			}
		}
		for _, d := range s.tree.Decls {
			first, last := s.set.Position(d.Pos()).Line, s.set.Position(d.End()).Line
			if f, ok := d.(*ast.FuncDecl); ok && last-first+1 > mostLines {
				t.Errorf("%s: %s is too long", s.line(d), f.Name.Name)
			}
		}
	}
}

// All layers are there, and nothing but Go files in them.
func TestFolders(t *testing.T) {
	for name := range layers {
		l, err := os.ReadDir(filepath.Join("..", name))
		if err != nil || len(l) == 0 {
			t.Errorf("no package %s: %v", name, err)
		}
		for _, f := range l {
			if !f.IsDir() && filepath.Ext(f.Name()) != ".go" {
				t.Errorf("%s/%s: not a Go file", name, f.Name())
			}
		}
	}
}
