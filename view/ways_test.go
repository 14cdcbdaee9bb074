package view_test

import (
	"go/ast"
	"go/parser"
	"go/token"
	"testing"
)

// takesFunction tells whether a generic function is handed another one.
func takesFunction(f *ast.FuncDecl) bool {
	if f.Type.TypeParams == nil {
		return false
	}
	for _, p := range f.Type.Params.List {
		if _, ok := p.Type.(*ast.FuncType); ok {
			return true
		}
	}
	return false
}

// ways are those of the language that stand in f.
func ways(f *ast.FuncDecl) map[string]bool {
	found := map[string]bool{"generic function": takesFunction(f)}
	ast.Inspect(f, func(n ast.Node) bool {
		switch x := n.(type) {
		case *ast.FuncLit:
			found["closure"] = true
		case *ast.SliceExpr:
			found["three indices"] = found["three indices"] || x.Slice3
		case *ast.CallExpr:
			name, ok := x.Fun.(*ast.Ident)
			found["find"] = found["find"] || ok && name.Name == "find"
		}
		return true
	})
	return found
}

// Layer 6's ways: members are found by a generic function with a closure, lists are cut with three indices.
func TestWays(t *testing.T) {
	file, err := parser.ParseFile(token.NewFileSet(), "view.go", nil, 0)
	if err != nil {
		t.Fatal(err)
	}
	parts := map[string]*ast.FuncDecl{}
	for _, d := range file.Decls {
		if f, ok := d.(*ast.FuncDecl); ok {
			parts[f.Name.Name] = f
		}
	}
	for _, w := range [][2]string{
		{"find", "generic function"}, {"of", "closure"}, {"is", "closure"}, {"behind", "closure"}, {"put", "three indices"},
		{"Join", "find"}, {"Leave", "find"}, {"Ready", "find"}, {"Bury", "find"}, {"Inc", "find"},
	} {
		if parts[w[0]] == nil || !ways(parts[w[0]])[w[1]] {
			t.Errorf("%q has no %s", w[0], w[1])
		}
	}
}
