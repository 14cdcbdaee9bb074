package pulse_test

import (
	"go/ast"
	"go/parser"
	"go/token"
	"testing"
)

// handed tells what of a call's arguments is a method that isn't called, and whether one is a function literal.
func handed(call *ast.CallExpr) (method string, closure bool) {
	for _, x := range call.Args {
		switch a := x.(type) {
		case *ast.SelectorExpr:
			method = a.Sel.Name
		case *ast.FuncLit:
			closure = true
		}
	}
	return method, closure
}

// gathers tells whether a function tells those of which a closure says so, looked at through the method value look.
func gathers(f *ast.FuncDecl) bool {
	found := false
	ast.Inspect(f, func(n ast.Node) bool {
		if call, ok := n.(*ast.CallExpr); ok {
			name, plain := call.Fun.(*ast.Ident)
			method, closure := handed(call)
			found = found || plain && name.Name == "those" && method == "look" && closure
		}
		return true
	})
	return found
}

// countersArray tells whether a type is a struct whose counters are an array.
func countersArray(x ast.Expr) bool {
	s, ok := x.(*ast.StructType)
	if !ok {
		return false
	}
	for _, field := range s.Fields.List {
		a, ok := field.Type.(*ast.ArrayType)
		if ok && a.Len != nil && len(field.Names) == 1 && field.Names[0].Name == "counters" {
			return true
		}
	}
	return false
}

// Layer 7's ways: counters are an array, those that are so are told by a closure, a node is looked at through a method value.
func TestWays(t *testing.T) {
	file, err := parser.ParseFile(token.NewFileSet(), "pulse.go", nil, 0)
	if err != nil {
		t.Fatal(err)
	}
	has := map[string]bool{}
	for _, d := range file.Decls {
		switch x := d.(type) {
		case *ast.FuncDecl:
			has[x.Name.Name] = gathers(x)
		case *ast.GenDecl:
			for _, s := range x.Specs {
				if ty, ok := s.(*ast.TypeSpec); ok {
					has[ty.Name.Name] = countersArray(ty.Type)
				}
			}
		}
	}
	for _, name := range []string{"Pulse", "Late", "Watched"} {
		if !has[name] {
			t.Errorf("%s leans on none of its ways", name)
		}
	}
}
