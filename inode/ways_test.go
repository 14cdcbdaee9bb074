package inode_test

import (
	"go/ast"
	"go/parser"
	"go/token"
	"testing"
)

// leaves tells whether a labelled break stands in what the label stands ahead of.
func leaves(l *ast.LabeledStmt) bool {
	out := false
	ast.Inspect(l.Stmt, func(n ast.Node) bool {
		b, ok := n.(*ast.BranchStmt)
		out = out || ok && b.Tok == token.BREAK && b.Label != nil && b.Label.Name == l.Label.Name
		return true
	})
	return out
}

// ways are those of the language that stand in a function, and the calls there; a method value is one of a reader's methods that is told and not called.
func ways(f *ast.FuncDecl) map[string]bool {
	found, called := map[string]bool{}, map[ast.Node]bool{}
	ast.Inspect(f, func(n ast.Node) bool {
		switch x := n.(type) {
		case *ast.CallExpr:
			called[x.Fun] = true
			if name, ok := x.Fun.(*ast.Ident); ok {
				found["call of "+name.Name] = true
			}
		case *ast.FuncLit:
			found["closure"] = true
		case *ast.LabeledStmt:
			found["labelled break"] = found["labelled break"] || leaves(x)
		case *ast.SelectorExpr:
			of, ok := x.X.(*ast.Ident)
			found["method value"] = found["method value"] || ok && of.Name == "r" && !called[x]
		}
		return true
	})
	return found
}

// Layer 14's ways: numbers are read by a method value, pieces are made with a labelled break, the list is sorted out by a closure.
func TestWays(t *testing.T) {
	file, err := parser.ParseFile(token.NewFileSet(), "inode.go", nil, 0)
	if err != nil {
		t.Fatal(err)
	}
	parts := map[string]*ast.FuncDecl{}
	for _, d := range file.Decls {
		if f, ok := d.(*ast.FuncDecl); ok {
			parts[f.Name.Name] = f
		}
	}
	for _, w := range [][2]string{
		{"Read", "method value"}, {"Read", "call of numbers"}, {"Pieces", "labelled break"}, {"wrong", "closure"}, {"Check", "call of wrong"},
	} {
		if parts[w[0]] == nil || !ways(parts[w[0]])[w[1]] {
			t.Errorf("%q has no %s", w[0], w[1])
		}
	}
}
