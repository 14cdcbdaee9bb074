package bag_test

import (
	"go/ast"
	"go/parser"
	"go/token"
	"testing"
)

// grid tells whether x is an array of arrays.
func grid(x ast.Expr) bool {
	a, ok := x.(*ast.ArrayType)
	if !ok || a.Len == nil {
		return false
	}
	inner, ok := a.Elt.(*ast.ArrayType)
	return ok && inner.Len != nil
}

// handed tells whether one of a call's arguments is a method of that name, not called.
func handed(call *ast.CallExpr, method string) bool {
	for _, x := range call.Args {
		if s, ok := x.(*ast.SelectorExpr); ok && s.Sel.Name == method {
			return true
		}
	}
	return false
}

// picks tells whether a call hands a method to pick.
func picks(call *ast.CallExpr, method string) bool {
	f, ok := call.Fun.(*ast.Ident)
	return ok && f.Name == "pick" && handed(call, method)
}

// ways are those of the language that stand in n.
func ways(n ast.Node) map[string]bool {
	found := map[string]bool{}
	ast.Inspect(n, func(n ast.Node) bool {
		switch x := n.(type) {
		case *ast.ArrayType:
			found["array of arrays"] = found["array of arrays"] || grid(x)
		case *ast.BranchStmt:
			found["labelled continue"] = found["labelled continue"] || x.Tok == token.CONTINUE && x.Label != nil
		case *ast.CallExpr:
			for _, method := range []string{"take", "double"} {
				found["method value "+method] = found["method value "+method] || picks(x, method)
			}
		}
		return true
	})
	return found
}

// Layer 5's ways: bags are an array of arrays, one is picked by a method value, links are gone over with a labelled continue.
func TestWays(t *testing.T) {
	file, err := parser.ParseFile(token.NewFileSet(), "bag.go", nil, 0)
	if err != nil {
		t.Fatal(err)
	}
	type part struct{ receiver, name string }
	parts := map[part]ast.Node{{"", ""}: file}
	for _, d := range file.Decls {
		if f, ok := d.(*ast.FuncDecl); ok {
			parts[part{receiver(f), f.Name.Name}] = f
		}
	}
	for p, way := range map[part]string{
		{"", ""}:          "array of arrays",
		{"Net", "Take"}:   "method value take",
		{"Net", "Any"}:    "method value take",
		{"Net", "Double"}: "method value double",
		{"Net", "take"}:   "labelled continue",
		{"Net", "Void"}:   "labelled continue",
	} {
		if parts[p] == nil || !ways(parts[p])[way] {
			t.Errorf("%v has no %s", p, way)
		}
	}
}

// receiver is the name of the type that a method is of.
func receiver(f *ast.FuncDecl) string {
	if f.Recv == nil {
		return ""
	}
	if p, ok := f.Recv.List[0].Type.(*ast.StarExpr); ok {
		return p.X.(*ast.Ident).Name
	}
	return ""
}
