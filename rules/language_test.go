package rules_test

import (
	"go/ast"
	"go/parser"
	"go/token"
	"os"
	"path/filepath"
	"slices"
	"strconv"
	"strings"
	"testing"
)

// mostLines is how many lines a function has at most.
const mostLines = 60

// sources are the program's Go files: without tests, and without tests that were laid beside it.
func sources(t *testing.T) []string {
	t.Helper()
	files, err := filepath.Glob("../*/*.go")
	if err != nil || len(files) == 0 {
		t.Fatal("no sources", err)
	}
	return slices.DeleteFunc(files, func(f string) bool {
		return strings.HasSuffix(f, "_test.go") || strings.Contains(f, "sharedtests")
	})
}

func TestImports(t *testing.T) {
	may := strings.Fields("bytes cmp container/heap errors iter maps math math/bits slices sort strconv strings sync sync/atomic unicode unicode/utf8")
	for _, f := range sources(t) {
		a, err := parser.ParseFile(token.NewFileSet(), f, nil, parser.ImportsOnly)
		if err != nil {
			t.Fatal(err)
		}
		for _, i := range a.Imports {
			path, _ := strconv.Unquote(i.Path.Value)
			if !strings.HasPrefix(path, "gazette/") && !slices.Contains(may, path) {
				t.Errorf("%s imports %s", f, path)
			}
		}
	}
}

// TestLayers: a layer calls those alone that the document's map names, and packages that are no layers.
func TestLayers(t *testing.T) {
	names := strings.Fields("api codec simdisk simnet wal walindex raftlog quorum raftconf raftsnap raftcore beats multiraft keyrange records producers partfsm lineage placement plans broker client cluster history console")
	calls := map[string]string{
		"wal": "codec simdisk", "raftcore": "raftlog quorum raftconf raftsnap", "beats": "codec",
		"multiraft": "simdisk wal walindex raftlog quorum raftconf raftsnap raftcore beats", "records": "keyrange",
		"partfsm": "codec keyrange records producers", "lineage": "keyrange records producers partfsm",
		"placement": "codec keyrange records producers", "broker": "codec multiraft partfsm lineage placement plans",
		"client": "keyrange records", "history": "partfsm lineage placement", "console": "codec history cluster",
		"cluster": strings.Join(names[:22], " "),
	}
	for _, f := range sources(t) {
		layer := filepath.Base(filepath.Dir(f))
		if !slices.Contains(names, layer) {
			continue
		}
		a, _ := parser.ParseFile(token.NewFileSet(), f, nil, parser.ImportsOnly)
		for _, i := range a.Imports {
			path, _ := strconv.Unquote(i.Path.Value)
			called, ours := strings.CutPrefix(path, "gazette/")
			if ours && called != "api" && slices.Contains(names, called) && !slices.Contains(strings.Fields(calls[layer]), called) {
				t.Errorf("%s calls %s", f, called)
			}
		}
	}
}

func TestFunctionsAreSmall(t *testing.T) {
	for _, f := range sources(t) {
		set := token.NewFileSet()
		a, err := parser.ParseFile(set, f, nil, 0)
		if err != nil {
			t.Fatal(err)
		}
		for _, d := range a.Decls {
			if x, ok := d.(*ast.FuncDecl); ok {
				if lines := set.Position(x.End()).Line - set.Position(x.Pos()).Line + 1; lines > mostLines {
					t.Errorf("%s: %s has %d lines", f, x.Name.Name, lines)
				}
			}
		}
	}
}

// TestPackageLevel: nothing stands there but constants, errors and short tables that are never written to.
func TestPackageLevel(t *testing.T) {
	for _, f := range sources(t) {
		a, err := parser.ParseFile(token.NewFileSet(), f, nil, 0)
		if err != nil {
			t.Fatal(err)
		}
		for _, d := range a.Decls {
			if g, ok := d.(*ast.GenDecl); ok && g.Tok == token.VAR {
				for _, s := range g.Specs {
					checkVariable(t, f, s.(*ast.ValueSpec))
				}
			}
		}
	}
}

func checkVariable(t *testing.T, file string, s *ast.ValueSpec) {
	t.Helper()
	if len(s.Values) != len(s.Names) {
		t.Errorf("%s: %s has no value of its own", file, s.Names[0].Name)
	}
	for i, v := range s.Values {
		switch x := v.(type) {
		case *ast.CompositeLit:
			if _, ok := x.Type.(*ast.MapType); ok {
				t.Errorf("%s: %s is a map", file, s.Names[i].Name)
			}
		case *ast.CallExpr:
			if f, ok := x.Fun.(*ast.SelectorExpr); !ok || f.Sel.Name != "New" || len(x.Args) != 1 {
				t.Errorf("%s: %s is made by a call", file, s.Names[i].Name)
			}
		default:
			t.Errorf("%s: %s is no table", file, s.Names[i].Name)
		}
	}
}

func TestNoDirectives(t *testing.T) {
	for _, f := range sources(t) {
		b, err := os.ReadFile(f)
		if err != nil {
			t.Fatal(err)
		}
		if strings.Contains(string(b), "//go:") || strings.Contains(string(b), "// +build") {
			t.Errorf("%s has a directive", f)
		}
	}
}
