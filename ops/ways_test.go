package ops_test

import (
	"go/ast"
	"go/parser"
	"go/token"
	"path/filepath"
	"slices"
	"strings"
	"testing"
)

// source is what the package's files declare: functions and structs.
func source(t *testing.T) (map[string]*ast.FuncDecl, map[string]*ast.StructType) {
	t.Helper()
	functions, structs := map[string]*ast.FuncDecl{}, map[string]*ast.StructType{}
	files, _ := filepath.Glob("*.go")
	for _, name := range files {
		if strings.HasSuffix(name, "_test.go") {
			continue
		}
		file, err := parser.ParseFile(token.NewFileSet(), name, nil, 0)
		if err != nil {
			t.Fatal(err)
		}
		ast.Inspect(file, func(n ast.Node) bool {
			switch x := n.(type) {
			case *ast.FuncDecl:
				functions[x.Name.Name] = x
			case *ast.TypeSpec:
				if s, ok := x.Type.(*ast.StructType); ok {
					structs[x.Name.Name] = s
				}
			}
			return true
		})
	}
	return functions, structs
}

// embedded are the names of what a struct has within it without a name of its own, and the names of its fields.
func embedded(s *ast.StructType) (within, fields []string) {
	for _, f := range s.Fields.List {
		if id, ok := f.Type.(*ast.Ident); ok && len(f.Names) == 0 {
			within = append(within, id.Name)
		}
		for _, name := range f.Names {
			fields = append(fields, name.Name)
		}
	}
	return within, fields
}

// selected are the fields and methods of its receiver of which a function speaks, those called and those not.
func selected(f *ast.FuncDecl) (called, taken []string) {
	var calls []ast.Expr
	ast.Inspect(f, func(n ast.Node) bool {
		if c, ok := n.(*ast.CallExpr); ok {
			calls = append(calls, c.Fun)
		}
		if s, ok := n.(*ast.SelectorExpr); ok && f.Recv != nil {
			if id, ok := s.X.(*ast.Ident); ok && id.Name == f.Recv.List[0].Names[0].Name {
				if slices.Contains(calls, ast.Expr(s)) {
					called = append(called, s.Sel.Name)
				} else {
					taken = append(taken, s.Sel.Name)
				}
			}
		}
		return true
	})
	return called, taken
}

// leaves tells whether a function leaves a loop by a labelled break.
func leaves(f *ast.FuncDecl) bool {
	found := false
	ast.Inspect(f, func(n ast.Node) bool {
		if l, ok := n.(*ast.LabeledStmt); ok {
			ast.Inspect(l.Stmt, func(n ast.Node) bool {
				b, ok := n.(*ast.BranchStmt)
				found = found || ok && b.Tok == token.BREAK && b.Label != nil && b.Label.Name == l.Label.Name
				return true
			})
		}
		return true
	})
	return found
}

// Layer 19's ways: what was read and what is to lie there is kept in a struct with embedding, whose fields and methods are promoted; sectors are read by a closure that is handed in; maps are looked at with a labelled break.
func TestWays(t *testing.T) {
	functions, structs := source(t)
	within, fields := embedded(structs["draft"])
	if !slices.Equal(within, []string{"seen", "plan"}) || len(fields) != 0 {
		t.Errorf("a draft has within it %v, and %v", within, fields)
	}
	if _, fields := embedded(structs["seen"]); !slices.Contains(fields, "read") {
		t.Error("what was seen has no closure that reads")
	}
	if called, _ := selected(functions["sector"]); !slices.Contains(called, "read") {
		t.Error("sectors aren't read by the closure")
	}
	for name, methods := range map[string][]string{"create": {"vacant", "enlist", "keep"}, "rename": {"named", "enlist"}, "settle": {"lay"}, "change": {"sector", "lay", "keep", "resize"}} {
		called, _ := selected(functions[name])
		for _, m := range methods {
			if !slices.Contains(called, m) {
				t.Errorf("%s doesn't call %s", name, m)
			}
		}
	}
	for name, want := range map[string][]string{"settle": {"maps", "now", "back", "layout"}, "modes": {"sectors", "row"}} {
		_, taken := selected(functions[name])
		for _, f := range want {
			if !slices.Contains(taken, f) {
				t.Errorf("%s doesn't speak of %s", name, f)
			}
		}
	}
	if _, taken := selected(functions["doer"]); len(taken) < 11 {
		t.Errorf("what does a call is taken from %v", taken)
	}
	if !leaves(functions["take"]) {
		t.Error("maps aren't looked at with a labelled break")
	}
}
