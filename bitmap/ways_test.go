package bitmap_test

import (
	"go/ast"
	"go/parser"
	"go/token"
	"testing"
)

// overNumber tells whether what is ranged over shows itself to be an integer: a number, or a length.
func overNumber(x ast.Expr) bool {
	if n, ok := x.(*ast.BasicLit); ok {
		return n.Kind == token.INT
	}
	call, ok := x.(*ast.CallExpr)
	if !ok {
		return false
	}
	name, ok := call.Fun.(*ast.Ident)
	return ok && name.Name == "len"
}

// Layer 3's ways: bits are gone over with a labelled continue, bytes are counted by range over an integer.
func TestWays(t *testing.T) {
	file, err := parser.ParseFile(token.NewFileSet(), "bitmap.go", nil, 0)
	if err != nil {
		t.Fatal(err)
	}
	labelled, ranged := false, false
	ast.Inspect(file, func(n ast.Node) bool {
		switch x := n.(type) {
		case *ast.BranchStmt:
			labelled = labelled || x.Tok == token.CONTINUE && x.Label != nil
		case *ast.RangeStmt:
			ranged = ranged || overNumber(x.X)
		}
		return true
	})
	if !labelled || !ranged {
		t.Errorf("labelled continue: %v, range over an integer: %v", labelled, ranged)
	}
}
