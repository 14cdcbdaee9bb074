package mode_test

import (
	"go/ast"
	"go/parser"
	"go/token"
	"testing"
)

// calls tells whether a call is of a function of that name.
func calls(call *ast.CallExpr, name string) bool {
	f, ok := call.Fun.(*ast.Ident)
	return ok && f.Name == name
}

// asks tells whether a call hands a list and a closure to the library's ContainsFunc.
func asks(call *ast.CallExpr) bool {
	f, ok := call.Fun.(*ast.SelectorExpr)
	if !ok || f.Sel.Name != "ContainsFunc" || len(call.Args) != 2 {
		return false
	}
	_, ok = call.Args[1].(*ast.FuncLit)
	return ok
}

// ways are those of the language that stand in f.
func ways(f *ast.FuncDecl) map[string]bool {
	found := map[string]bool{}
	ast.Inspect(f, func(n ast.Node) bool {
		switch x := n.(type) {
		case *ast.BranchStmt:
			found["labelled break"] = found["labelled break"] || x.Tok == token.BREAK && x.Label != nil
		case *ast.CallExpr:
			found["tell"] = found["tell"] || calls(x, "tell")
			found["asking closure"] = found["asking closure"] || asks(x)
		}
		return true
	})
	return found
}

// Layer 8's ways: modes are told apart with a labelled break, what is asked of claims is a closure.
func TestWays(t *testing.T) {
	file, err := parser.ParseFile(token.NewFileSet(), "mode.go", nil, 0)
	if err != nil {
		t.Fatal(err)
	}
	parts := map[string]*ast.FuncDecl{}
	for _, d := range file.Decls {
		if f, ok := d.(*ast.FuncDecl); ok {
			parts[f.Name.Name] = f
		}
	}
	for _, w := range [][2]string{
		{"tell", "labelled break"}, {"Is", "tell"}, {"Fit", "tell"}, {"Covers", "tell"},
		{"Safe", "asking closure"}, {"Strongest", "asking closure"},
	} {
		if parts[w[0]] == nil || !ways(parts[w[0]])[w[1]] {
			t.Errorf("%q has no %s", w[0], w[1])
		}
	}
}
