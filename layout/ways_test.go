package layout_test

import (
	"go/ast"
	"go/parser"
	"go/token"
	"testing"
)

// counted are the names of a group of constants that iota counts, if it does.
func counted(d *ast.GenDecl) []string {
	var names []string
	found := false
	for _, s := range d.Specs {
		if v, ok := s.(*ast.ValueSpec); ok && d.Tok == token.CONST {
			names = append(names, v.Names[0].Name)
			for _, x := range v.Values {
				name, ok := x.(*ast.Ident)
				found = found || ok && name.Name == "iota"
			}
		}
	}
	if !found {
		return nil
	}
	return names
}

// overZones tells whether a function ranges over how many zones there are.
func overZones(f *ast.FuncDecl) bool {
	found := false
	ast.Inspect(f, func(n ast.Node) bool {
		if r, ok := n.(*ast.RangeStmt); ok {
			x, ok := r.X.(*ast.SelectorExpr)
			found = found || ok && x.Sel.Name == "Zones"
		}
		return true
	})
	return found
}

// uses tells whether a name stands in a function.
func uses(f *ast.FuncDecl, name string) bool {
	found := false
	ast.Inspect(f, func(n ast.Node) bool {
		x, ok := n.(*ast.Ident)
		found = found || ok && x.Name == name
		return true
	})
	return found
}

// Layer 13's ways: the parts of a zone are counted by iota, and places hang on that; zones are gone over by a range over an integer.
func TestWays(t *testing.T) {
	file, err := parser.ParseFile(token.NewFileSet(), "layout.go", nil, 0)
	if err != nil {
		t.Fatal(err)
	}
	parts := map[string]*ast.FuncDecl{}
	var names []string
	for _, d := range file.Decls {
		switch x := d.(type) {
		case *ast.FuncDecl:
			parts[x.Name.Name] = x
		case *ast.GenDecl:
			names = append(names, counted(x)...)
		}
	}
	if len(names) < 3 {
		t.Fatalf("iota counts %v", names)
	}
	for i, user := range []string{"Begin", "Root", "Map", "Room"} {
		if name := names[min(i, 2)]; parts[user] == nil || !uses(parts[user], name) {
			t.Errorf("%q hangs not on %s", user, name)
		}
	}
	if parts["find"] == nil || !overZones(parts["find"]) {
		t.Error("zones are not gone over by a range over an integer")
	}
}
