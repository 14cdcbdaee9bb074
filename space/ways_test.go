package space_test

import (
	"go/ast"
	"go/parser"
	"go/token"
	"testing"
)

// goesOn tells whether a labelled continue leads from within a loop to the next round of one over the zones.
func goesOn(l *ast.LabeledStmt) bool {
	r, ok := l.Stmt.(*ast.RangeStmt)
	if !ok {
		return false
	}
	over, ok := r.X.(*ast.SelectorExpr)
	if !ok || over.Sel.Name != "Zones" {
		return false
	}
	found := false
	for _, s := range r.Body.List {
		loop, ok := s.(*ast.ForStmt)
		if !ok {
			continue
		}
		ast.Inspect(loop, func(n ast.Node) bool {
			b, ok := n.(*ast.BranchStmt)
			found = found || ok && b.Tok == token.CONTINUE && b.Label != nil && b.Label.Name == l.Label.Name
			return true
		})
	}
	return found
}

// gathers tells whether a closure that is kept appends to what lies outside of it.
func gathers(a *ast.AssignStmt) bool {
	f, ok := a.Rhs[0].(*ast.FuncLit)
	if !ok {
		return false
	}
	found := false
	ast.Inspect(f.Body, func(n ast.Node) bool {
		c, ok := n.(*ast.CallExpr)
		if ok {
			name, ok := c.Fun.(*ast.Ident)
			found = found || ok && name.Name == "append"
		}
		return true
	})
	return found
}

// Layer 17's ways: zones are gone round with a labelled continue; sectors are gathered by a closure.
func TestWays(t *testing.T) {
	file, err := parser.ParseFile(token.NewFileSet(), "space.go", nil, 0)
	if err != nil {
		t.Fatal(err)
	}
	round, gathered := false, false
	for _, d := range file.Decls {
		f, ok := d.(*ast.FuncDecl)
		if !ok || f.Name.Name != "Take" {
			continue
		}
		ast.Inspect(f, func(n ast.Node) bool {
			switch x := n.(type) {
			case *ast.LabeledStmt:
				round = round || goesOn(x)
			case *ast.AssignStmt:
				gathered = gathered || gathers(x)
			}
			return true
		})
	}
	if !round || !gathered {
		t.Errorf("zones gone round with a labelled continue: %v; sectors gathered by a closure: %v", round, gathered)
	}
}
