package cluster_test

import (
	"go/ast"
	"go/parser"
	"go/token"
	"path/filepath"
	"strings"
	"testing"
)

// name is what a type, or what is called, is called: pack.Part, or Part.
func name(x ast.Expr) string {
	switch x := x.(type) {
	case *ast.Ident:
		return x.Name
	case *ast.SelectorExpr:
		return name(x.X) + "." + x.Sel.Name
	case *ast.StarExpr:
		return name(x.X)
	}
	return ""
}

// ways are those of the language that stand in n, and what is called there.
func ways(n ast.Node) map[string]bool {
	found := map[string]bool{}
	ast.Inspect(n, func(n ast.Node) bool {
		switch x := n.(type) {
		case *ast.Field:
			for _, f := range x.Names {
				found[f.Name+" "+name(x.Type)] = true
				if _, ok := x.Type.(*ast.MapType); ok {
					found[f.Name+" map"] = true
				}
			}
		case *ast.CallExpr:
			f := name(x.Fun)
			found["call of "+f] = true
			for _, a := range x.Args {
				if _, ok := a.(*ast.FuncLit); ok {
					found[f+" of a closure"] = true
				}
			}
		case *ast.BranchStmt:
			found["labelled continue"] = found["labelled continue"] || x.Tok == token.CONTINUE && x.Label != nil
		}
		return true
	})
	return found
}

// Layer 22's ways: probes are counted by an atomic number; the disk is laid by a sync.Once; events are closures; falls are gone over with labelled continues; calls that wait lie in a map.
func TestWays(t *testing.T) {
	parts := map[string]ast.Node{}
	files, _ := filepath.Glob("*.go")
	for _, f := range files {
		if strings.HasSuffix(f, "_test.go") {
			continue
		}
		file, err := parser.ParseFile(token.NewFileSet(), f, nil, 0)
		if err != nil {
			t.Fatal(err)
		}
		for _, d := range file.Decls {
			switch x := d.(type) {
			case *ast.FuncDecl:
				parts[x.Name.Name] = x
			case *ast.GenDecl:
				for _, spec := range x.Specs {
					if s, ok := spec.(*ast.TypeSpec); ok {
						parts[s.Name.Name] = s
					}
				}
			}
		}
	}
	for _, w := range [][2]string{
		{"Cluster", "probes atomic.Int64"}, {"Start", "call of c.probes.Add"}, {"Cluster", "laid sync.Once"}, {"disk", "c.laid.Do of a closure"},
		{"Call", "c.event of a closure"}, {"Tick", "c.event of a closure"}, {"Step", "c.event of a closure"}, {"Take", "c.event of a closure"},
		{"buried", "labelled continue"}, {"Cluster", "waits map"},
	} {
		if parts[w[0]] == nil || !ways(parts[w[0]])[w[1]] {
			t.Errorf("%q has no %s", w[0], w[1])
		}
	}
}
