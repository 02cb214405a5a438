// Package rules_test holds what holds in all layers: the given numbers, the
// calls' shapes, and the rules of the language.
package rules_test

import (
	"bytes"
	"go/ast"
	"go/format"
	"go/parser"
	"go/token"
	"io/fs"
	"os"
	"path/filepath"
	"slices"
	"strconv"
	"strings"
	"testing"

	"bailment/api"
)

func TestNumbers(t *testing.T) {
	counted := func(what string, from int, l ...int) {
		for i, n := range l {
			if n != from+i {
				t.Errorf("%s: %d stands where %d should", what, n, from+i)
			}
		}
	}
	for i, e := range []api.Errno{api.OK, api.ErrArg, api.ErrOver, api.ErrZero, api.ErrSign, api.ErrSyntax, api.ErrDeep, api.ErrMany, api.ErrName, api.ErrTwice, api.ErrType, api.ErrInit, api.ErrCycle, api.ErrGhost, api.ErrCall, api.ErrForm, api.ErrCut, api.ErrFrame, api.ErrBudget} {
		counted("errors", i, int(e))
	}
	counted("tokens", 1, api.TokName, api.TokNum, api.TokWord, api.TokSign)
	counted("types", 1, api.Bool, api.Int)
	counted("items", 1, api.Assume, api.Guarantee, api.Ghost, api.Mode, api.Import)
	counted("operators", 1, api.OpNum, api.OpBool, api.OpVar, api.OpNot, api.OpNeg, api.OpAnd, api.OpOr, api.OpXor, api.OpImp, api.OpEq, api.OpNe, api.OpLt, api.OpLe, api.OpAdd, api.OpSub, api.OpMul, api.OpDiv, api.OpMod, api.OpArrow, api.OpSince, api.OpPre, api.OpOnce, api.OpHist, api.OpPrev, api.OpWithin, api.OpIf, api.OpCall, api.OpArgs)
	for n, limit := range map[int]int{100000: api.MaxSource, 40: api.MaxDepth, 5000: api.MaxNodes, 200: api.MaxItems, 4000: api.MaxEqs, 1000: api.MaxWithin, 10000: api.MaxBdd} {
		counted("limits", n, limit)
	}
}

// layers stand in their order: each one may call those ahead of it alone.
var layers = strings.Fields("api num lex tree expr show prog list names types inits cause flat past norm sched code image machine monitor bdd atoms modes frame simplex")

var library = strings.Fields("bytes cmp container/heap errors iter maps math math/bits slices sort strconv strings sync sync/atomic unicode unicode/utf8")

func TestLanguage(t *testing.T) {
	seen := 0
	err := filepath.WalkDir("..", func(path string, d fs.DirEntry, err error) error {
		if err != nil || d.IsDir() {
			if d != nil && slices.Contains([]string{".git", "sharedtests"}, d.Name()) {
				return fs.SkipDir
			}
			return err
		}
		if strings.HasSuffix(path, ".go") && !strings.HasSuffix(path, "_test.go") {
			seen++
			checkFile(t, path)
		}
		return nil
	})
	if err != nil || seen < len(layers) {
		t.Errorf("%d files, %v", seen, err)
	}
}

func checkFile(t *testing.T, path string) {
	src, err := os.ReadFile(path)
	if err != nil {
		t.Fatal(err)
	}
	if neat, err := format.Source(src); err != nil || !bytes.Equal(neat, src) {
		t.Errorf("%s: not in gofmt's layout: %v", path, err)
	}
	if bytes.Contains(src, []byte("//go:")) || bytes.Contains(src, []byte("// +build")) {
		t.Errorf("%s: a line to the compiler", path)
	}
	set := token.NewFileSet()
	f, err := parser.ParseFile(set, path, src, parser.ParseComments)
	if err != nil {
		t.Fatal(err)
	}
	own := slices.Index(layers, filepath.Base(filepath.Dir(path)))
	for _, i := range f.Imports {
		name, _ := strconv.Unquote(i.Path.Value)
		short, ours := strings.CutPrefix(name, "bailment/")
		if !ours && !slices.Contains(library, name) {
			t.Errorf("%s: imports %s", path, name)
		}
		if below := slices.Index(layers, short); ours && own >= 0 && below >= own {
			t.Errorf("%s: imports %s, which is no layer below it", path, name)
		}
	}
	ast.Inspect(f, func(n ast.Node) bool {
		switch x := n.(type) {
		case *ast.FuncDecl:
			if l := set.Position(x.End()).Line - set.Position(x.Pos()).Line + 1; l > 60 {
				t.Errorf("%s: %s has %d lines", path, x.Name.Name, l)
			}
		case *ast.CallExpr:
			if f, ok := x.Fun.(*ast.Ident); ok && (f.Name == "print" || f.Name == "println") {
				t.Errorf("%s: prints", path)
			}
		}
		return true
	})
}
