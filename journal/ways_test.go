package journal_test

import (
	"go/ast"
	"go/parser"
	"go/token"
	"testing"
)

// handsOn tells whether a function tells a function literal.
func handsOn(r *ast.ReturnStmt) bool {
	for _, x := range r.Results {
		if _, ok := x.(*ast.FuncLit); ok {
			return true
		}
	}
	return false
}

// leaves tells whether a labelled break leads out of a loop.
func leaves(l *ast.LabeledStmt) bool {
	if _, ok := l.Stmt.(*ast.RangeStmt); !ok {
		return false
	}
	out := false
	ast.Inspect(l.Stmt, func(n ast.Node) bool {
		b, ok := n.(*ast.BranchStmt)
		out = out || ok && b.Tok == token.BREAK && b.Label != nil && b.Label.Name == l.Label.Name
		return true
	})
	return out
}

// ways are those of the language that stand in f, and the calls there.
func ways(f *ast.FuncDecl) map[string]bool {
	found := map[string]bool{}
	ast.Inspect(f, func(n ast.Node) bool {
		switch x := n.(type) {
		case *ast.ReturnStmt:
			found["closure"] = found["closure"] || handsOn(x)
		case *ast.LabeledStmt:
			found["labelled break"] = found["labelled break"] || leaves(x)
		case *ast.SliceExpr:
			found["three indices"] = found["three indices"] || x.Slice3
		case *ast.CallExpr:
			if name, ok := x.Fun.(*ast.Ident); ok {
				found["call of "+name.Name] = true
			}
		}
		return true
	})
	return found
}

// Layer 11's ways: changes are put in order with a labelled break, lines are made by a closure, rows are cut with three indices.
func TestWays(t *testing.T) {
	file, err := parser.ParseFile(token.NewFileSet(), "journal.go", nil, 0)
	if err != nil {
		t.Fatal(err)
	}
	parts := map[string]*ast.FuncDecl{}
	for _, d := range file.Decls {
		if f, ok := d.(*ast.FuncDecl); ok {
			parts[f.Name.Name] = f
		}
	}
	for _, w := range [][2]string{
		{"Put", "labelled break"}, {"Put", "three indices"}, {"lines", "closure"}, {"Record", "call of lines"}, {"Record", "call of line"},
	} {
		if parts[w[0]] == nil || !ways(parts[w[0]])[w[1]] {
			t.Errorf("%q has no %s", w[0], w[1])
		}
	}
}
