// Package rules reads the program's source: no package may reach for a printer, a clock, a random source, a file or the network (R5), as none imports what could.
package rules

import (
	"go/ast"
	"go/parser"
	"go/token"
	"io/fs"
	"path/filepath"
	"slices"
	"strconv"
	"strings"
	"testing"
)

const (
	root     = ".."
	maxLines = 60
	allowed  = " bytes cmp container/heap errors iter maps math math/bits slices sort strconv strings sync sync/atomic unicode unicode/utf8 "
)

// sources calls each for every file of the program, without its tests and what is laid beside it.
func sources(t *testing.T, each func(path string, set *token.FileSet, file *ast.File)) {
	t.Helper()
	seen := 0
	err := filepath.WalkDir(root, func(path string, d fs.DirEntry, err error) error {
		if err != nil {
			return err
		}
		if d.IsDir() && (d.Name() == ".git" || d.Name() == "sharedtests") {
			return filepath.SkipDir
		}
		if d.IsDir() || !strings.HasSuffix(path, ".go") || strings.HasSuffix(path, "_test.go") {
			return nil
		}
		set := token.NewFileSet()
		file, err := parser.ParseFile(set, path, nil, parser.ParseComments)
		if err != nil {
			return err
		}
		seen++
		each(path, set, file)
		return nil
	})
	if err != nil || seen == 0 {
		t.Fatal("no sources read", err)
	}
}

func TestImports(t *testing.T) {
	sources(t, func(path string, _ *token.FileSet, file *ast.File) {
		for _, s := range file.Imports {
			name, err := strconv.Unquote(s.Path.Value)
			if err != nil {
				t.Fatal(err)
			}
			if !strings.HasPrefix(name, "parquet/") && !strings.Contains(allowed, " "+name+" ") {
				t.Errorf("%s imports %s", path, name)
			}
		}
	})
}

// calls tells for each layer which others it may call, by the document's map; any may call api.
func calls() map[string]string {
	return map[string]string{
		"api": "", "wide": "", "token": "", "pred": "wide", "meet": "pred", "input": "token", "options": "token", "sorts": "",
		"rings": "wide pred", "within": "pred meet", "valid": "input meet sorts rings within", "faces": "",
		"fill": "pred meet within valid", "flips": "pred fill", "insert": "pred meet fill", "defects": "pred fill",
		"refine": "pred fill flips insert defects", "dual": "pred fill", "match": "", "quads": "pred dual match",
		"halve": "pred faces", "object": "pred token sorts faces",
		"mesher": "input options valid fill flips insert refine quads halve object",
	}
}

func TestLayersCallThoseOfTheMap(t *testing.T) {
	layers := calls()
	sources(t, func(path string, _ *token.FileSet, file *ast.File) {
		may, layer := layers[filepath.Base(filepath.Dir(path))]
		for _, s := range file.Imports {
			name, own := strings.CutPrefix(strings.Trim(s.Path.Value, `"`), "parquet/")
			_, other := layers[name]
			if layer && own && other && name != "api" && !slices.Contains(strings.Fields(may), name) {
				t.Errorf("%s calls %s", path, name)
			}
		}
	})
}

// inside calls each for every node of a layer's source.
func inside(t *testing.T, layer string, each func(n ast.Node)) {
	t.Helper()
	sources(t, func(path string, _ *token.FileSet, file *ast.File) {
		if filepath.Base(filepath.Dir(path)) == layer {
			ast.Inspect(file, func(n ast.Node) bool {
				each(n)
				return true
			})
		}
	})
}

// isBareSwitch tells whether n is a switch without a condition.
func isBareSwitch(n ast.Node) bool {
	s, ok := n.(*ast.SwitchStmt)
	return ok && s.Tag == nil
}

// The ways that the chapter of pred asks for, beside variadic functions, whose signatures its own tests hold.
func TestWaysOfPred(t *testing.T) {
	bits, bare := false, false
	inside(t, "pred", func(n ast.Node) {
		bare = bare || isBareSwitch(n)
		if x, ok := n.(*ast.SelectorExpr); ok {
			name, ok := x.X.(*ast.Ident)
			bits = bits || ok && name.Name == "bits" && x.Sel.Name == "Mul64"
		}
	})
	if !bits || !bare {
		t.Errorf("pred computes products with math/bits: %v, and has a switch without a condition: %v", bits, bare)
	}
}

// The ways that the chapter of meet asks for, beside First's signature.
func TestWaysOfMeet(t *testing.T) {
	pairs, bare := false, false
	inside(t, "meet", func(n ast.Node) {
		bare = bare || isBareSwitch(n)
		if x, ok := n.(*ast.BinaryExpr); ok && x.Op == token.EQL {
			// A literal of an array, held as a whole against another one.
			pair, ok := x.Y.(*ast.CompositeLit)
			if ok {
				array, ok := pair.Type.(*ast.ArrayType)
				pairs = pairs || ok && array.Len != nil
			}
		}
	})
	if !pairs || !bare {
		t.Errorf("meet compares arrays: %v, and has a switch without a condition: %v", pairs, bare)
	}
}

// embedded returns the names of the types of this layer that others embed, behind those that embed them.
func embedded(t *testing.T, layer string) map[string]string {
	t.Helper()
	parts := map[string]string{}
	inside(t, layer, func(n ast.Node) {
		if x, ok := n.(*ast.TypeSpec); ok {
			if s, ok := x.Type.(*ast.StructType); ok {
				for _, f := range s.Fields.List {
					if name, ok := f.Type.(*ast.Ident); ok && len(f.Names) == 0 {
						parts[x.Name.Name] = name.Name
					}
				}
			}
		}
	})
	return parts
}

// receiver returns the name of the receiver of f, and that of its type; none if f is no method.
func receiver(f *ast.FuncDecl) (string, string) {
	if f.Recv == nil || len(f.Recv.List[0].Names) == 0 {
		return "", ""
	}
	kind := f.Recv.List[0].Type
	if pointer, ok := kind.(*ast.StarExpr); ok {
		kind = pointer.X
	}
	name, ok := kind.(*ast.Ident)
	if !ok {
		return "", ""
	}
	return f.Recv.List[0].Names[0].Name, name.Name
}

// callsPromoted tells whether the method f calls, by the name of its receiver alone, one of those methods.
func callsPromoted(f *ast.FuncDecl, self string, methods []string) bool {
	found := false
	ast.Inspect(f.Body, func(n ast.Node) bool {
		if x, ok := n.(*ast.SelectorExpr); ok {
			name, ok := x.X.(*ast.Ident)
			found = found || ok && name.Name == self && slices.Contains(methods, x.Sel.Name)
		}
		return true
	})
	return found
}

// The ways that the chapter of input asks for: a struct with an embedded one, whose methods it calls as its own; a variadic function that reads numbers.
func TestWaysOfInput(t *testing.T) {
	parts := embedded(t, "input")
	methods := map[string][]string{}
	variadic, promoted := false, false
	inside(t, "input", func(n ast.Node) {
		if f, ok := n.(*ast.FuncDecl); ok {
			_, kind := receiver(f)
			methods[kind] = append(methods[kind], f.Name.Name)
			if l := f.Type.Params.List; parts[kind] != "" && len(l) > 0 {
				_, ok := l[len(l)-1].Type.(*ast.Ellipsis)
				variadic = variadic || ok
			}
		}
	})
	inside(t, "input", func(n ast.Node) {
		if f, ok := n.(*ast.FuncDecl); ok {
			self, kind := receiver(f)
			promoted = promoted || parts[kind] != "" && callsPromoted(f, self, methods[parts[kind]])
		}
	})
	if !promoted || !variadic {
		t.Errorf("input has a reader that calls methods of an embedded struct: %v, and is asked for numbers by a variadic function: %v", promoted, variadic)
	}
}

// labelled tells whether the loop with that label has a switch, in which something breaks or goes on with the loop by it.
func labelled(l *ast.LabeledStmt) bool {
	loop, ok := l.Stmt.(*ast.ForStmt)
	if !ok {
		return false
	}
	found := false
	for _, s := range loop.Body.List {
		if s, ok := s.(*ast.SwitchStmt); ok {
			ast.Inspect(s, func(n ast.Node) bool {
				b, ok := n.(*ast.BranchStmt)
				found = found || ok && b.Label != nil && b.Label.Name == l.Label.Name
				return true
			})
		}
	}
	return found
}

// returnsClosure tells whether n returns a function that is written out there.
func returnsClosure(n ast.Node) bool {
	r, ok := n.(*ast.ReturnStmt)
	if !ok || len(r.Results) != 1 {
		return false
	}
	_, ok = r.Results[0].(*ast.FuncLit)
	return ok
}

// The ways that the chapter of options asks for, beside Make's signature: closures, a switch in a loop with a label, a map, an array, and digits as runes.
func TestWaysOfOptions(t *testing.T) {
	closure, label, table, array, digits := false, false, false, false, false
	inside(t, "options", func(n ast.Node) {
		closure = closure || returnsClosure(n)
		switch x := n.(type) {
		case *ast.LabeledStmt:
			label = label || labelled(x)
		case *ast.MapType:
			table = true
		case *ast.ArrayType:
			array = array || x.Len != nil
		case *ast.Ident:
			digits = digits || x.Name == "rune"
		}
	})
	if !closure || !label || !table || !array || !digits {
		t.Errorf("options has closures: %v, a switch in a loop with a label: %v, a map: %v, an array: %v, digits as runes: %v", closure, label, table, array, digits)
	}
}

// generic tells whether f has a type parameter, and takes a function of two values of that type.
func generic(f *ast.FuncDecl) bool {
	if f.Type.TypeParams == nil {
		return false
	}
	kind := f.Type.TypeParams.List[0].Names[0].Name
	for _, p := range f.Type.Params.List {
		if order, ok := p.Type.(*ast.FuncType); ok && len(order.Params.List) == 2 {
			name, ok := order.Params.List[0].Type.(*ast.Ident)
			return ok && name.Name == kind
		}
	}
	return false
}

// The ways that the chapter of sorts asks for: generic functions that are passed the order, and a closure over points as the order of indexes.
func TestWaysOfSorts(t *testing.T) {
	var functions []string
	closure := false
	inside(t, "sorts", func(n ast.Node) {
		switch x := n.(type) {
		case *ast.FuncDecl:
			if generic(x) {
				functions = append(functions, x.Name.Name)
			}
		case *ast.CallExpr:
			if name, ok := x.Fun.(*ast.Ident); ok && (name.Name == "Sort" || name.Name == "Merge") {
				_, ok := x.Args[len(x.Args)-1].(*ast.FuncLit)
				closure = closure || ok
			}
		}
	})
	if !closure || !slices.Contains(functions, "Merge") || !slices.Contains(functions, "Sort") {
		t.Errorf("sorts sorts by a closure: %v, and has as generic functions that take an order: %v", closure, functions)
	}
}

// isPair tells whether n is the type of an array of two.
func isPair(n ast.Node) bool {
	x, ok := n.(*ast.ArrayType)
	if !ok {
		return false
	}
	length, ok := x.Len.(*ast.BasicLit)
	return ok && length.Value == "2"
}

// The ways that the chapter of rings asks for, beside Segs's signature: an array of two for each point, and a map whose keys are segments; and a closure that asks the map.
func TestWaysOfRings(t *testing.T) {
	pairs, ends, closure := false, false, false
	inside(t, "rings", func(n ast.Node) {
		switch x := n.(type) {
		case *ast.ArrayType:
			pairs = pairs || x.Len == nil && isPair(x.Elt)
		case *ast.MapType:
			key, ok := x.Key.(*ast.SelectorExpr)
			ends = ends || ok && key.Sel.Name == "Seg"
		case *ast.FuncLit:
			closure = true
		}
	})
	if !pairs || !ends || !closure {
		t.Errorf("rings has an array of two for each point: %v, a map whose keys are segments: %v, a closure: %v", pairs, ends, closure)
	}
}

// passed calls each for the names of methods that n passes to some function as values, or keeps as such.
func passed(n ast.Node, each func(name string)) {
	var values []ast.Expr
	switch x := n.(type) {
	case *ast.CallExpr:
		values = x.Args
	case *ast.AssignStmt:
		values = x.Rhs
	}
	for _, v := range values {
		if s, ok := v.(*ast.SelectorExpr); ok {
			each(s.Sel.Name)
		}
	}
}

// The ways that the chapter of within asks for: a method that gives points of finer grids, as a value; a switch that tells sides apart; a variadic function.
func TestWaysOfWithin(t *testing.T) {
	var methods []string
	value, bare, variadic := false, false, false
	inside(t, "within", func(n ast.Node) {
		if f, ok := n.(*ast.FuncDecl); ok && f.Recv != nil {
			methods = append(methods, f.Name.Name)
		}
		_, dots := n.(*ast.Ellipsis)
		bare, variadic = bare || isBareSwitch(n), variadic || dots
	})
	inside(t, "within", func(n ast.Node) {
		passed(n, func(name string) { value = value || slices.Contains(methods, name) })
	})
	if !value || !bare || !variadic {
		t.Errorf("within passes a method as a value: %v, has a switch without a condition: %v, a variadic function: %v", value, bare, variadic)
	}
}

// asks tells whether the loop calls each function that it goes through, and may end the whole after one.
func asks(loop *ast.RangeStmt) bool {
	value, ok := loop.Value.(*ast.Ident)
	if !ok {
		return false
	}
	called, ended := false, false
	ast.Inspect(loop.Body, func(n ast.Node) bool {
		if x, ok := n.(*ast.CallExpr); ok {
			name, ok := x.Fun.(*ast.Ident)
			called = called || ok && name.Name == value.Name
		}
		_, out := n.(*ast.ReturnStmt)
		ended = ended || out
		return true
	})
	return called && ended
}

// The ways that the chapter of valid asks for: functions in an array, called one after the other until one ends this.
func TestWaysOfValid(t *testing.T) {
	array, asked := false, false
	inside(t, "valid", func(n ast.Node) {
		switch x := n.(type) {
		case *ast.ArrayType:
			_, function := x.Elt.(*ast.FuncType)
			array = array || x.Len != nil && function
		case *ast.RangeStmt:
			asked = asked || asks(x)
		}
	})
	if !array || !asked {
		t.Errorf("valid has an array of functions: %v, and calls one after the other: %v", array, asked)
	}
}

// The ways that the chapter of faces asks for: a table that embeds a map, whose keys are structs; a mesh that embeds the table, and calls its methods as its own; edges sorted with package slices; entries that are deleted, and a map that is gone through.
func TestWaysOfFaces(t *testing.T) {
	parts, methods, maps := embedded(t, "faces"), map[string][]string{}, map[string]bool{}
	sorted, deleted, promoted := false, false, false
	inside(t, "faces", func(n ast.Node) {
		switch x := n.(type) {
		case *ast.TypeSpec:
			if m, ok := x.Type.(*ast.MapType); ok {
				key, ok := m.Key.(*ast.SelectorExpr)
				maps[x.Name.Name] = ok && key.Sel.Name == "Seg"
			}
		case *ast.FuncDecl:
			_, kind := receiver(x)
			methods[kind] = append(methods[kind], x.Name.Name)
		case *ast.CallExpr:
			name, ok := x.Fun.(*ast.Ident)
			deleted = deleted || ok && name.Name == "delete"
			way, ok := x.Fun.(*ast.SelectorExpr)
			sorted = sorted || ok && way.Sel.Name == "SortFunc"
		}
	})
	inside(t, "faces", func(n ast.Node) {
		if f, ok := n.(*ast.FuncDecl); ok {
			self, kind := receiver(f)
			promoted = promoted || maps[parts[parts[kind]]] && callsPromoted(f, self, methods[parts[kind]])
		}
	})
	if !promoted || !sorted || !deleted {
		t.Errorf("faces has a mesh that calls methods of an embedded table, which embeds a map of edges: %v, sorts edges: %v, deletes: %v", promoted, sorted, deleted)
	}
}

// comparesTriangle tells whether n compares the triangle that a call of Tri returns with another one, as a whole.
func comparesTriangle(n ast.Node) bool {
	s, ok := n.(*ast.IfStmt)
	if !ok {
		return false
	}
	got, ok := s.Init.(*ast.AssignStmt)
	if !ok {
		return false
	}
	call, ok := got.Rhs[0].(*ast.CallExpr)
	if !ok {
		return false
	}
	made, isName := call.Fun.(*ast.Ident)
	value, isValue := got.Lhs[0].(*ast.Ident)
	found := false
	ast.Inspect(s.Cond, func(n ast.Node) bool {
		if x, ok := n.(*ast.BinaryExpr); ok && (x.Op == token.EQL || x.Op == token.NEQ) {
			one, ok := x.X.(*ast.Ident)
			found = found || ok && isValue && one.Name == value.Name
		}
		return true
	})
	return found && isName && made.Name == "Tri"
}

// The ways that the chapter of fill asks for: a map whose keys are edges; triangles that are sorted, and compared as structs; a list that is copied as a whole; and an array of a triangle's edges.
func TestWaysOfFill(t *testing.T) {
	edges, sorted, compared, copied, array := false, false, false, false, false
	isSeg := func(n ast.Node) bool {
		x, ok := n.(*ast.SelectorExpr)
		return ok && x.Sel.Name == "Seg"
	}
	inside(t, "fill", func(n ast.Node) {
		compared = compared || comparesTriangle(n)
		switch x := n.(type) {
		case *ast.MapType:
			edges = edges || isSeg(x.Key)
		case *ast.ArrayType:
			array = array || x.Len != nil && isSeg(x.Elt)
		case *ast.SelectorExpr:
			sorted = sorted || x.Sel.Name == "SortFunc"
			copied = copied || x.Sel.Name == "Clone"
		}
	})
	if !edges || !sorted || !compared || !copied || !array {
		t.Errorf("fill has a map of edges: %v, sorts: %v, compares triangles: %v, copies a list: %v, has an array of edges: %v", edges, sorted, compared, copied, array)
	}
}

// filtersByClosure tells whether n removes elements of a list by a function that is written out there.
func filtersByClosure(n ast.Node) bool {
	x, ok := n.(*ast.CallExpr)
	if !ok {
		return false
	}
	name, ok := x.Fun.(*ast.SelectorExpr)
	if !ok || name.Sel.Name != "DeleteFunc" {
		return false
	}
	_, ok = x.Args[len(x.Args)-1].(*ast.FuncLit)
	return ok
}

// mapFields returns the names of the fields of this layer's structs that are maps whose keys are segments.
func mapFields(t *testing.T, layer string) []string {
	t.Helper()
	var names []string
	inside(t, layer, func(n ast.Node) {
		f, ok := n.(*ast.Field)
		if !ok {
			return
		}
		if m, ok := f.Type.(*ast.MapType); ok {
			if key, ok := m.Key.(*ast.SelectorExpr); ok && key.Sel.Name == "Seg" {
				for _, name := range f.Names {
					names = append(names, name.Name)
				}
			}
		}
	})
	return names
}

// The ways that the chapter of flips asks for: a map whose keys are edges, in which triangles are looked up, and which is gone through; triangles removed by a closure; lists that are returned as copies; and an array of four points.
func TestWaysOfFlips(t *testing.T) {
	edges := mapFields(t, "flips")
	isEdges := func(n ast.Node) bool {
		x, ok := n.(*ast.SelectorExpr)
		return ok && slices.Contains(edges, x.Sel.Name)
	}
	asked, ranged, filtered, copied, array := false, false, false, false, false
	inside(t, "flips", func(n ast.Node) {
		filtered = filtered || filtersByClosure(n)
		switch x := n.(type) {
		case *ast.IndexExpr:
			asked = asked || isEdges(x.X)
		case *ast.RangeStmt:
			ranged = ranged || isEdges(x.X)
		case *ast.ArrayType:
			array = array || x.Len != nil
		case *ast.SelectorExpr:
			copied = copied || x.Sel.Name == "Clone"
		}
	})
	if !asked || !ranged || !filtered || !copied || !array {
		t.Errorf("flips asks a map of edges: %v, goes through it: %v, filters by a closure: %v, copies lists: %v, has an array: %v", asked, ranged, filtered, copied, array)
	}
}

// tellsSpots tells whether n is a switch over a field Kind, with cases for all spots but the one of what is left.
func tellsSpots(n ast.Node) bool {
	s, ok := n.(*ast.SwitchStmt)
	if !ok {
		return false
	}
	tag, ok := s.Tag.(*ast.SelectorExpr)
	if !ok || tag.Sel.Name != "Kind" {
		return false
	}
	cases := 0
	for _, c := range s.Body.List {
		for _, kind := range c.(*ast.CaseClause).List {
			if x, ok := kind.(*ast.SelectorExpr); ok && strings.HasPrefix(x.Sel.Name, "Spot") {
				cases++
			}
		}
	}
	return cases >= 3
}

// extendsClone tells whether n inserts into a list that it clones for that.
func extendsClone(n ast.Node) bool {
	x, ok := n.(*ast.CallExpr)
	if !ok || len(x.Args) == 0 {
		return false
	}
	name, ok := x.Fun.(*ast.SelectorExpr)
	if !ok || name.Sel.Name != "Insert" {
		return false
	}
	list, ok := x.Args[0].(*ast.CallExpr)
	if !ok {
		return false
	}
	of, ok := list.Fun.(*ast.SelectorExpr)
	return ok && of.Sel.Name == "Clone"
}

// The ways that the chapter of insert asks for: spots told apart by a switch over their kinds; lists that are cloned and extended; and closures.
func TestWaysOfInsert(t *testing.T) {
	spots, extended, closure := false, false, false
	inside(t, "insert", func(n ast.Node) {
		_, function := n.(*ast.FuncLit)
		spots, extended, closure = spots || tellsSpots(n), extended || extendsClone(n), closure || function
	})
	if !spots || !extended || !closure {
		t.Errorf("insert tells spots apart by a switch: %v, extends clones: %v, has a closure: %v", spots, extended, closure)
	}
}

func TestNothingIsPrinted(t *testing.T) {
	sources(t, func(path string, set *token.FileSet, file *ast.File) {
		ast.Inspect(file, func(n ast.Node) bool {
			if c, ok := n.(*ast.CallExpr); ok {
				if f, ok := c.Fun.(*ast.Ident); ok && (f.Name == "print" || f.Name == "println") {
					t.Errorf("%s prints", set.Position(c.Pos()))
				}
			}
			return true
		})
	})
}

func TestFunctionsAreSmall(t *testing.T) {
	sources(t, func(path string, set *token.FileSet, file *ast.File) {
		for _, d := range file.Decls {
			if f, ok := d.(*ast.FuncDecl); ok {
				if n := set.Position(f.End()).Line - set.Position(f.Pos()).Line + 1; n > maxLines {
					t.Errorf("%s: %s has %d lines", path, f.Name.Name, n)
				}
			}
		}
	})
}

func TestNoDirectives(t *testing.T) {
	sources(t, func(path string, set *token.FileSet, file *ast.File) {
		for _, g := range file.Comments {
			for _, c := range g.List {
				if strings.HasPrefix(c.Text, "//go:") || strings.HasPrefix(c.Text, "// +build") {
					t.Errorf("%s: %s", set.Position(c.Pos()), c.Text)
				}
			}
		}
	})
}
