package queue_test

import (
	"go/ast"
	"go/parser"
	"go/token"
	"testing"
)

// methodExpression tells whether x is a method of a type, not of a value.
func methodExpression(x ast.Expr) bool {
	s, ok := x.(*ast.SelectorExpr)
	if !ok {
		return false
	}
	of, ok := s.X.(*ast.ParenExpr)
	if !ok {
		return false
	}
	_, ok = of.X.(*ast.StarExpr)
	return ok
}

// called is the name of the function that a call is of.
func called(call *ast.CallExpr) string {
	switch f := call.Fun.(type) {
	case *ast.Ident:
		return f.Name
	case *ast.SelectorExpr:
		return f.Sel.Name
	}
	return ""
}

// ways are those of the language that stand in f, and the calls there.
func ways(f *ast.FuncDecl) map[string]bool {
	found := map[string]bool{}
	ast.Inspect(f, func(n ast.Node) bool {
		switch x := n.(type) {
		case *ast.FuncLit:
			found["closure"] = true
		case *ast.BranchStmt:
			found["labelled break"] = found["labelled break"] || x.Tok == token.BREAK && x.Label != nil
		case *ast.CallExpr:
			found["call of "+called(x)] = true
			for _, a := range x.Args {
				found["method expression"] = found["method expression"] || called(x) == "change" && methodExpression(a)
			}
		}
		return true
	})
	return found
}

// Layer 9's ways: queues are changed by method expressions, those who wait are served with a labelled break, claims are found by a closure.
func TestWays(t *testing.T) {
	file, err := parser.ParseFile(token.NewFileSet(), "queue.go", nil, 0)
	if err != nil {
		t.Fatal(err)
	}
	parts := map[string]*ast.FuncDecl{}
	for _, d := range file.Decls {
		if f, ok := d.(*ast.FuncDecl); ok {
			parts[f.Name.Name] = f
		}
	}
	for _, w := range [][2]string{
		{"Want", "method expression"}, {"Drop", "method expression"}, {"Leave", "method expression"},
		{"change", "call of serve"}, {"serve", "labelled break"},
		{"of", "closure"}, {"behind", "closure"}, {"modeIn", "call of of"}, {"Mode", "call of modeIn"}, {"Waiting", "call of modeIn"},
	} {
		if parts[w[0]] == nil || !ways(parts[w[0]])[w[1]] {
			t.Errorf("%q has no %s", w[0], w[1])
		}
	}
}
