package entry_test

import (
	"go/ast"
	"go/parser"
	"go/token"
	"testing"
)

// leaves tells whether a labelled break leads out of a loop.
func leaves(l *ast.LabeledStmt) bool {
	if _, ok := l.Stmt.(*ast.RangeStmt); !ok {
		return false
	}
	out := false
	ast.Inspect(l.Stmt, func(n ast.Node) bool {
		b, ok := n.(*ast.BranchStmt)
		out = out || ok && b.Tok == token.BREAK && b.Label != nil && b.Label.Name == l.Label.Name
		return true
	})
	return out
}

// overText tells whether what is ranged over is f's first argument, of texts alone.
func overText(f *ast.FuncDecl, r *ast.RangeStmt) bool {
	p := f.Type.Params.List[0]
	kind, ok := p.Type.(*ast.Ident)
	over, named := r.X.(*ast.Ident)
	return ok && named && kind.Name == "string" && over.Name == p.Names[0].Name
}

// ways are those of the language that stand in a function, and the calls there.
func ways(f *ast.FuncDecl) map[string]bool {
	found := map[string]bool{"generic function": f.Type.TypeParams != nil}
	ast.Inspect(f, func(n ast.Node) bool {
		switch x := n.(type) {
		case *ast.CallExpr:
			if name, ok := x.Fun.(*ast.Ident); ok {
				found["call of "+name.Name] = true
			}
		case *ast.FuncLit:
			found["closure"] = true
		case *ast.LabeledStmt:
			found["labelled break"] = found["labelled break"] || leaves(x)
		case *ast.RangeStmt:
			found["range over a text"] = found["range over a text"] || overText(f, x)
		}
		return true
	})
	return found
}

// Layer 15's ways: entries are found by a generic function with a closure; names are gone over by a range over a text with a labelled break.
func TestWays(t *testing.T) {
	file, err := parser.ParseFile(token.NewFileSet(), "entry.go", nil, 0)
	if err != nil {
		t.Fatal(err)
	}
	parts := map[string]*ast.FuncDecl{}
	for _, d := range file.Decls {
		if f, ok := d.(*ast.FuncDecl); ok {
			parts[f.Name.Name] = f
		}
	}
	for _, w := range [][2]string{
		{"find", "generic function"}, {"named", "closure"}, {"Find", "call of find"}, {"Find", "call of named"}, {"Put", "call of find"}, {"Drop", "call of find"},
		{"Name", "range over a text"}, {"Name", "labelled break"},
	} {
		if parts[w[0]] == nil || !ways(parts[w[0]])[w[1]] {
			t.Errorf("%q has no %s", w[0], w[1])
		}
	}
}
