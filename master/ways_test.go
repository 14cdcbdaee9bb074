package master_test

import (
	"go/ast"
	"go/parser"
	"go/token"
	"testing"
)

// arrayOf tells whether x is an array of that type, or of arrays of it.
func arrayOf(x ast.Expr, name string) bool {
	a, ok := x.(*ast.ArrayType)
	if !ok || a.Len == nil {
		return false
	}
	of, ok := a.Elt.(*ast.SelectorExpr)
	return ok && of.Sel.Name == name
}

// called is the name of the function that a call is of.
func called(call *ast.CallExpr) string {
	switch f := call.Fun.(type) {
	case *ast.Ident:
		return f.Name
	case *ast.SelectorExpr:
		return f.Sel.Name
	}
	return ""
}

// kindsTold tells whether notes are told apart by a switch over their Kind, out of which a labelled break leads.
func kindsTold(l *ast.LabeledStmt) bool {
	s, ok := l.Stmt.(*ast.SwitchStmt)
	if !ok {
		return false
	}
	tag, ok := s.Tag.(*ast.SelectorExpr)
	if !ok || tag.Sel.Name != "Kind" {
		return false
	}
	out := false
	ast.Inspect(s, func(n ast.Node) bool {
		b, ok := n.(*ast.BranchStmt)
		out = out || ok && b.Tok == token.BREAK && b.Label != nil && b.Label.Name == l.Label.Name
		return true
	})
	return out
}

// ways are those of the language that stand in a declaration, and the calls there.
func ways(d ast.Node) map[string]bool {
	found := map[string]bool{}
	ast.Inspect(d, func(n ast.Node) bool {
		switch x := n.(type) {
		case *ast.FuncLit:
			found["closure"] = true
		case *ast.Field:
			found["array of queues"] = found["array of queues"] || arrayOf(x.Type, "Queue")
		case *ast.LabeledStmt:
			found["labelled break"] = found["labelled break"] || kindsTold(x)
		case *ast.CallExpr:
			found["call of "+called(x)] = true
		}
		return true
	})
	return found
}

// parts are what a file declares, by names; methods with their types.
func parts(t *testing.T, name string) map[string]ast.Node {
	t.Helper()
	file, err := parser.ParseFile(token.NewFileSet(), name, nil, 0)
	if err != nil {
		t.Fatal(err)
	}
	all := map[string]ast.Node{}
	for _, d := range file.Decls {
		switch x := d.(type) {
		case *ast.FuncDecl:
			all[x.Name.Name] = x
		case *ast.GenDecl:
			for _, s := range x.Specs {
				if ty, ok := s.(*ast.TypeSpec); ok {
					all[ty.Name.Name] = ty
				}
			}
		}
	}
	return all
}

// Layer 10's ways: queues are an array, what a table tells is gathered by a closure, notes are told apart with a labelled break.
func TestWays(t *testing.T) {
	for _, w := range [][3]string{
		{"table.go", "Table", "array of queues"},
		{"table.go", "gather", "closure"}, {"table.go", "Hear", "call of gather"}, {"table.go", "Nudge", "call of gather"},
		{"table.go", "Hear", "labelled break"}, {"holder.go", "Hear", "labelled break"},
	} {
		part := parts(t, w[0])[w[1]]
		if part == nil || !ways(part)[w[2]] {
			t.Errorf("%q of %s has no %s", w[1], w[0], w[2])
		}
	}
}
