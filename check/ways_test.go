package check_test

import (
	"go/ast"
	"go/parser"
	"go/token"
	"path/filepath"
	"strings"
	"testing"
)

// goesOn tells whether a labelled continue leads on in a loop.
func goesOn(l *ast.LabeledStmt) bool {
	found := false
	ast.Inspect(l.Stmt, func(n ast.Node) bool {
		b, ok := n.(*ast.BranchStmt)
		found = found || ok && b.Tok == token.CONTINUE && b.Label != nil && b.Label.Name == l.Label.Name
		return true
	})
	return found
}

// ways are those of the language that stand in a function, and the calls there.
func ways(f *ast.FuncDecl) map[string]bool {
	found := map[string]bool{}
	ast.Inspect(f, func(n ast.Node) bool {
		switch x := n.(type) {
		case *ast.CallExpr:
			switch g := x.Fun.(type) {
			case *ast.Ident:
				found["call of "+g.Name] = true
			case *ast.SelectorExpr:
				found["call of "+g.Sel.Name] = true
			}
		case *ast.FuncLit:
			found["closure"] = true
		case *ast.LabeledStmt:
			found["labelled continue"] = found["labelled continue"] || goesOn(x)
		case *ast.IndexExpr:
			if s, ok := x.X.(*ast.SelectorExpr); ok {
				found["looks into "+s.Sel.Name] = true
			}
		}
		return true
	})
	return found
}

// Layer 20's ways: things that were reached lie in a map; which names may stand in a list is told by a closure; places are gone over with a labelled continue.
func TestWays(t *testing.T) {
	parts, inMap := map[string]*ast.FuncDecl{}, false
	files, _ := filepath.Glob("*.go")
	for _, name := range files {
		if strings.HasSuffix(name, "_test.go") {
			continue
		}
		file, err := parser.ParseFile(token.NewFileSet(), name, nil, 0)
		if err != nil {
			t.Fatal(err)
		}
		ast.Inspect(file, func(n ast.Node) bool {
			switch x := n.(type) {
			case *ast.FuncDecl:
				parts[x.Name.Name] = x
			case *ast.Field:
				if _, ok := x.Type.(*ast.MapType); ok && len(x.Names) == 1 && x.Names[0].Name == "reached" {
					inMap = true
				}
			}
			return true
		})
	}
	if !inMap {
		t.Error("things that were reached lie in no map")
	}
	for _, w := range [][2]string{{"visit", "looks into reached"}, {"visit", "call of may"}, {"all", "closure"}, {"all", "call of visit"}, {"fits", "labelled continue"}} {
		if parts[w[0]] == nil || !ways(parts[w[0]])[w[1]] {
			t.Errorf("%q has no %s", w[0], w[1])
		}
	}
}
