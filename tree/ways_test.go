package tree_test

import (
	"go/ast"
	"go/parser"
	"go/token"
	"path/filepath"
	"strings"
	"testing"
)

// leaves tells whether a labelled break leads out of a loop.
func leaves(l *ast.LabeledStmt) bool {
	if _, ok := l.Stmt.(*ast.RangeStmt); !ok {
		return false
	}
	out := false
	ast.Inspect(l.Stmt, func(n ast.Node) bool {
		b, ok := n.(*ast.BranchStmt)
		out = out || ok && b.Tok == token.BREAK && b.Label != nil && b.Label.Name == l.Label.Name
		return true
	})
	return out
}

// picks tells whether each case of a switch takes a method of the receiver as a value.
func picks(f *ast.FuncDecl, s *ast.SwitchStmt) bool {
	n := 0
	for _, c := range s.Body.List {
		body := c.(*ast.CaseClause).Body
		if len(body) != 1 {
			return false
		}
		a, ok := body[0].(*ast.AssignStmt)
		if !ok {
			return false
		}
		sel, ok := a.Rhs[0].(*ast.SelectorExpr)
		if !ok {
			return false
		}
		on, ok := sel.X.(*ast.Ident)
		if !ok || on.Name != f.Recv.List[0].Names[0].Name {
			return false
		}
		n++
	}
	return n > 8
}

// ways are those of the language that stand in a function, and the calls there.
func ways(f *ast.FuncDecl) map[string]bool {
	found := map[string]bool{}
	ast.Inspect(f, func(n ast.Node) bool {
		switch x := n.(type) {
		case *ast.CallExpr:
			switch g := x.Fun.(type) {
			case *ast.Ident:
				found["call of "+g.Name] = true
			case *ast.SelectorExpr:
				found["call of "+g.Sel.Name] = true
			}
		case *ast.FuncLit:
			found["closure"] = true
		case *ast.LabeledStmt:
			found["labelled break"] = found["labelled break"] || leaves(x)
		case *ast.SwitchStmt:
			found["switch of method values"] = found["switch of method values"] || picks(f, x)
		}
		return true
	})
	return found
}

// Layer 16's ways: a path is walked with a labelled break; what a call does is picked in a switch of method values; lists are gone over by closures; bytes are copied.
func TestWays(t *testing.T) {
	parts := map[string]*ast.FuncDecl{}
	files, _ := filepath.Glob("*.go")
	for _, name := range files {
		if strings.HasSuffix(name, "_test.go") {
			continue
		}
		file, err := parser.ParseFile(token.NewFileSet(), name, nil, 0)
		if err != nil {
			t.Fatal(err)
		}
		for _, d := range file.Decls {
			if f, ok := d.(*ast.FuncDecl); ok {
				parts[f.Name.Name] = f
			}
		}
	}
	for _, w := range [][2]string{
		{"walk", "labelled break"}, {"doer", "switch of method values"}, {"Do", "call of doer"},
		{"readdir", "call of each"}, {"readdir", "closure"}, {"stat", "call of each"}, {"stat", "closure"}, {"below", "call of each"}, {"below", "closure"},
		{"change", "call of copy"}, {"write", "call of copy"}, {"write", "call of change"}, {"truncate", "call of change"},
	} {
		if parts[w[0]] == nil || !ways(parts[w[0]])[w[1]] {
			t.Errorf("%q has no %s", w[0], w[1])
		}
	}
}
