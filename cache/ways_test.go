package cache_test

import (
	"go/ast"
	"go/parser"
	"go/token"
	"testing"
)

// ways are those of the language that stand in a function.
func ways(f *ast.FuncDecl) map[string]bool {
	found := map[string]bool{}
	for _, p := range f.Type.Params.List {
		if _, ok := p.Type.(*ast.Ellipsis); ok {
			found["variadic"] = true
		}
	}
	ast.Inspect(f, func(n ast.Node) bool {
		switch x := n.(type) {
		case *ast.LabeledStmt:
			r, ok := x.Stmt.(*ast.RangeStmt)
			if !ok {
				return true
			}
			over, ok := r.X.(*ast.SelectorExpr)
			ast.Inspect(r.Body, func(n ast.Node) bool {
				b, is := n.(*ast.BranchStmt)
				found["range over the map with a labelled continue"] = found["range over the map with a labelled continue"] || ok && over.Sel.Name == "sectors" && is && b.Tok == token.CONTINUE && b.Label != nil && b.Label.Name == x.Label.Name
				return true
			})
		case *ast.BinaryExpr:
			p, ok := x.Y.(*ast.ParenExpr)
			if ok {
				_, ok = p.X.(*ast.CompositeLit)
			}
			found["comparison of structs"] = found["comparison of structs"] || ok && x.Op == token.EQL
		case *ast.CallExpr:
			if s, ok := x.Fun.(*ast.SelectorExpr); ok {
				found["call of "+s.Sel.Name] = true
			}
		}
		return true
	})
	return found
}

// Layer 18's ways: sectors lie in a map; they are gone over by a range over a map with a labelled continue; changes are variadic; what is known is held against what was told by a comparison of structs.
func TestWays(t *testing.T) {
	file, err := parser.ParseFile(token.NewFileSet(), "cache.go", nil, 0)
	if err != nil {
		t.Fatal(err)
	}
	parts := map[string]*ast.FuncDecl{}
	inMap := false
	for _, d := range file.Decls {
		if f, ok := d.(*ast.FuncDecl); ok {
			parts[f.Name.Name] = f
			continue
		}
		ast.Inspect(d, func(n ast.Node) bool {
			f, ok := n.(*ast.Field)
			if ok {
				_, ok = f.Type.(*ast.MapType)
			}
			inMap = inMap || ok && f.Names[0].Name == "sectors"
			return true
		})
	}
	if !inMap {
		t.Error("sectors lie in no map")
	}
	for _, w := range [][2]string{
		{"within", "range over the map with a labelled continue"}, {"Dirty", "call of within"}, {"Drop", "call of within"}, {"Put", "variadic"}, {"Clean", "variadic"}, {"Clean", "comparison of structs"},
	} {
		if parts[w[0]] == nil || !ways(parts[w[0]])[w[1]] {
			t.Errorf("%q has no %s", w[0], w[1])
		}
	}
}
