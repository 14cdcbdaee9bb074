package replay_test

import (
	"go/ast"
	"go/parser"
	"go/token"
	"testing"
)

// leaves tells whether a labelled break stands in what the label stands ahead of.
func leaves(l *ast.LabeledStmt) bool {
	out := false
	ast.Inspect(l.Stmt, func(n ast.Node) bool {
		b, ok := n.(*ast.BranchStmt)
		out = out || ok && b.Tok == token.BREAK && b.Label != nil && b.Label.Name == l.Label.Name
		return true
	})
	return out
}

// methods are the names of a file's methods.
func methods(file *ast.File) map[string]bool {
	l := map[string]bool{}
	for _, d := range file.Decls {
		if f, ok := d.(*ast.FuncDecl); ok && f.Recv != nil {
			l[f.Name.Name] = true
		}
	}
	return l
}

// ways are those of the language that stand in n; a method value is a method that is told and not called.
func ways(n ast.Node, methods map[string]bool) map[string]bool {
	found, called := map[string]bool{}, map[ast.Node]bool{}
	ast.Inspect(n, func(n ast.Node) bool {
		switch x := n.(type) {
		case *ast.CallExpr:
			called[x.Fun] = true
			if name, ok := x.Fun.(*ast.Ident); ok {
				found["call of "+name.Name] = true
			}
		case *ast.FuncLit:
			found["closure"] = true
		case *ast.LabeledStmt:
			found["labelled break"] = found["labelled break"] || leaves(x)
		case *ast.SelectorExpr:
			found["method value"] = found["method value"] || methods[x.Sel.Name] && !called[x]
		}
		return true
	})
	return found
}

// Layer 12's ways: steps are gathered by a closure; they are done by a method value, with a labelled break.
func TestWays(t *testing.T) {
	file, err := parser.ParseFile(token.NewFileSet(), "replay.go", nil, 0)
	if err != nil {
		t.Fatal(err)
	}
	parts := map[string]*ast.FuncDecl{}
	for _, d := range file.Decls {
		if f, ok := d.(*ast.FuncDecl); ok {
			parts[f.Name.Name] = f
		}
	}
	for _, w := range [][2]string{
		{"gather", "closure"}, {"Log", "call of gather"}, {"Home", "call of gather"}, {"Do", "method value"}, {"Do", "labelled break"},
	} {
		if parts[w[0]] == nil || !ways(parts[w[0]], methods(file))[w[1]] {
			t.Errorf("%q has no %s", w[0], w[1])
		}
	}
}
