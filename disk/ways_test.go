package disk_test

import (
	"go/ast"
	"go/parser"
	"go/token"
	"testing"
)

// named tells whether x is that part of that package.
func named(x ast.Expr, pack, part string) bool {
	s, ok := x.(*ast.SelectorExpr)
	if !ok || s.Sel.Name != part {
		return false
	}
	p, ok := s.X.(*ast.Ident)
	return ok && p.Name == pack
}

// overFunction tells whether what is ranged over shows itself to be a function: the one that the library makes to go backward.
func overFunction(x ast.Expr) bool {
	call, ok := x.(*ast.CallExpr)
	return ok && named(call.Fun, "slices", "Backward")
}

// ways are those of the language that stand in n.
func ways(n ast.Node) map[string]bool {
	found := map[string]bool{}
	ast.Inspect(n, func(n ast.Node) bool {
		switch x := n.(type) {
		case *ast.MapType:
			found["map"] = true
		case *ast.FuncLit:
			found["closure"] = true
		case *ast.BranchStmt:
			found["labelled continue"] = found["labelled continue"] || x.Tok == token.CONTINUE && x.Label != nil
		case *ast.RangeStmt:
			found["range over a function"] = found["range over a function"] || overFunction(x.X)
		case *ast.CallExpr:
			f, ok := x.Fun.(*ast.Ident)
			found["delete"] = found["delete"] || ok && f.Name == "delete"
		}
		return true
	})
	return found
}

// Layer 4's ways: caches in a map, writes settled by a closure, the last one looked for with a labelled continue by a range over a function, a settled cache deleted.
func TestWays(t *testing.T) {
	file, err := parser.ParseFile(token.NewFileSet(), "disk.go", nil, 0)
	if err != nil {
		t.Fatal(err)
	}
	parts := map[string]ast.Node{"": file}
	for _, d := range file.Decls {
		if f, ok := d.(*ast.FuncDecl); ok {
			parts[f.Name.Name] = f
		}
	}
	for way, part := range map[string]string{"map": "", "closure": "odd", "labelled continue": "last", "range over a function": "last", "delete": "settle"} {
		if parts[part] == nil || !ways(parts[part])[way] {
			t.Errorf("%q has no %s", part, way)
		}
	}
}
