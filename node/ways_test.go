package node_test

import (
	"go/ast"
	"go/parser"
	"go/token"
	"path/filepath"
	"strings"
	"testing"
)

// leaves tells whether a labelled break leads out of a loop.
func leaves(l *ast.LabeledStmt) bool {
	found := false
	ast.Inspect(l.Stmt, func(n ast.Node) bool {
		b, ok := n.(*ast.BranchStmt)
		found = found || ok && b.Tok == token.BREAK && b.Label != nil && b.Label.Name == l.Label.Name
		return true
	})
	return found
}

// ways are those of the language that stand in a function, and the calls there.
func ways(f *ast.FuncDecl) map[string]bool {
	found := map[string]bool{}
	ast.Inspect(f, func(n ast.Node) bool {
		switch x := n.(type) {
		case *ast.CallExpr:
			if g, ok := x.Fun.(*ast.SelectorExpr); ok {
				found["call of "+g.Sel.Name] = true
				if len(x.Args) == 1 {
					_, closure := x.Args[0].(*ast.FuncLit)
					found[g.Sel.Name+" of a closure"] = closure
				}
			}
		case *ast.LabeledStmt:
			found["labelled break"] = found["labelled break"] || leaves(x)
		case *ast.SliceExpr:
			if s, ok := x.X.(*ast.SelectorExpr); ok {
				found["slice of "+s.Sel.Name] = true
			}
		}
		return true
	})
	return found
}

// Layer 21's ways: what an event does is a closure; calls are served with labelled breaks; disk steps are cut off by slices.
func TestWays(t *testing.T) {
	parts := map[string]*ast.FuncDecl{}
	files, _ := filepath.Glob("*.go")
	for _, name := range files {
		if strings.HasSuffix(name, "_test.go") {
			continue
		}
		file, err := parser.ParseFile(token.NewFileSet(), name, nil, 0)
		if err != nil {
			t.Fatal(err)
		}
		for _, d := range file.Decls {
			if f, ok := d.(*ast.FuncDecl); ok {
				parts[f.Name.Name] = f
			}
		}
	}
	for _, w := range [][2]string{{"Call", "event of a closure"}, {"Mail", "event of a closure"}, {"Tick", "event of a closure"}, {"Step", "event of a closure"}, {"serve", "labelled break"}, {"serve", "call of work"}, {"step", "slice of steps"}} {
		if parts[w[0]] == nil || !ways(parts[w[0]])[w[1]] {
			t.Errorf("%q has no %s", w[0], w[1])
		}
	}
}
