package scope_test

import (
	"reflect"
	"strconv"
	"strings"
	"testing"

	"squint/api"
	"squint/parse"
	"squint/scope"
	"squint/tree"
)

func parsed(t *testing.T, src string) []api.Node {
	t.Helper()
	l, f := parse.Parse([]byte(src), api.MaxNest)
	if f != (api.Fault{}) {
		t.Fatalf("%q: %v", src, f)
	}
	return l
}

func isDecl(n api.Node) bool {
	switch n.Kind {
	case api.SVal, api.SVar, api.NParam:
		return true
	case api.NRecv, api.EProg:
		return n.Name != ""
	}
	return false
}

// told writes a declaration as its name, and which one of that name it is in the order in which one reads them in the source, from 1 on.
func told(l []api.Node, decl int) string {
	switch decl {
	case -2:
		return "in"
	case -3:
		return "out"
	}
	if decl < 0 || decl >= len(l) || !isDecl(l[decl]) {
		return "?" + strconv.Itoa(decl)
	}
	which := 1
	for _, n := range l {
		if isDecl(n) && n.Name == l[decl].Name && n.At < l[decl].At {
			which++
		}
	}
	return l[decl].Name + strconv.Itoa(which)
}

// toldRefs writes what the ENames mean, in the order of the list, which is that of the source.
func toldRefs(t *testing.T, l []api.Node, names api.Names) string {
	t.Helper()
	if len(names.Ref) != len(l) {
		t.Fatalf("%d nodes, %d of Ref", len(l), len(names.Ref))
	}
	var out []string
	for i, n := range l {
		if n.Kind == api.EName {
			out = append(out, told(l, names.Ref[i]))
		} else if names.Ref[i] != -1 {
			t.Errorf("node %d is no EName, and means %d", i, names.Ref[i])
		}
	}
	return strings.Join(out, " ")
}

// toldFree writes what the EProgs capture, each in brackets, in the order of the list: an inner one ahead of the one around it.
func toldFree(t *testing.T, l []api.Node, names api.Names) string {
	t.Helper()
	if len(names.Free) != len(l) {
		t.Fatalf("%d nodes, %d of Free", len(l), len(names.Free))
	}
	out := ""
	for i, n := range l {
		var one []string
		for _, decl := range names.Free[i] {
			one = append(one, told(l, decl))
		}
		if n.Kind == api.EProg {
			out += "[" + strings.Join(one, " ") + "]"
		} else if len(one) != 0 {
			t.Errorf("node %d is no EProg, and captures %v", i, one)
		}
	}
	return out
}

func wantNames(t *testing.T, src, refs, free string) {
	t.Helper()
	l := parsed(t, src)
	names, f := scope.Names(l)
	if f != (api.Fault{}) {
		t.Errorf("%q: %v", src, f)
		return
	}
	if got := toldRefs(t, l, names); got != refs {
		t.Errorf("%q: names %q, not %q", src, got, refs)
	}
	if got := toldFree(t, l, names); got != free {
		t.Errorf("%q: captured %q, not %q", src, got, free)
	}
}

// wantFault: the mark `^` stands ahead of the place at which a source is refused.
func wantFault(t *testing.T, code api.Errno, marked string) {
	t.Helper()
	at := strings.Index(marked, "^")
	wantRefused(t, parsed(t, marked[:at]+marked[at+1:]), api.Fault{At: at, Code: code})
}

func wantRefused(t *testing.T, l []api.Node, want api.Fault) {
	t.Helper()
	names, f := scope.Names(l)
	if f != want || len(names.Ref) != 0 || len(names.Free) != 0 {
		text, _ := tree.Print(l)
		t.Errorf("%q: %v, %v, not %v", text, names, f, want)
	}
}

// The chapter's examples, and DOC.md's seventh.
func TestExamples(t *testing.T) {
	wantNames(t, "val x = 1; { val x = x; x; } x;", "x1 x2 x1", "")
	wantFault(t, api.ErrScopeName, "val x = ^x;")
	wantFault(t, api.ErrScopeTwice, "val x = 1; ^var x: int;")
	wantFault(t, api.ErrScopeTwice, "val f = prog(a: int) { ^val a = 1; };")
	wantNames(t, "val f = prog f(f: int) { f; };", "f3", "[]")
	wantFault(t, api.ErrScopeName, "val f = prog g() { g(); ^f(); };")
	wantFault(t, api.ErrScopeCapture, "var v: int; val f = prog() { ^v; };")
	wantFault(t, api.ErrScopeCapture, "var v: int; val f = prog() { ^v = 1; };")
	wantFault(t, api.ErrScopeSet, "val v = 1; ^v = 2;")
	wantNames(t, "1 = 2;", "", "")
	wantNames(t, "val a = 1; val b = 2; val f = prog f() { b; val g = prog() { f; a; b; }; };", "b1 f2 a1 b1", "[f2 a1 b1][b1 a1]")
	wantFault(t, api.ErrScopeName, "val x = 1; val f = prog() { output <-= ^y; };")
}

// The numbers themselves, of one program: 0 EInt, 1 SVal a, 2 TInt, 3 NParam a, 4 EName a, 5 SDo, 6 EName output, 7 SDo, 8 SBlock, 9 EProg, 10 SVal f, 11 EName a, 12 SDo, 13 NProgram.
func TestNumbers(t *testing.T) {
	names, f := scope.Names(parsed(t, "val a = 1; val f = prog(a: int) { a; output; }; a;"))
	if f != (api.Fault{}) || !reflect.DeepEqual(names.Ref, []int{-1, -1, -1, -1, 3, -1, -3, -1, -1, -1, -1, 1, -1, -1}) {
		t.Fatalf("%v, %v", names, f)
	}
	free := make([][]int, 14)
	free[9] = []int{-3}
	wantSame(t, names, api.Names{Ref: names.Ref, Free: free})
}

// wantSame: by R3 a list that is nil and one that is empty are the same.
func wantSame(t *testing.T, got, want api.Names) {
	t.Helper()
	if !reflect.DeepEqual(filled(got), filled(want)) {
		t.Fatalf("%v, not %v", got, want)
	}
}

func filled(names api.Names) api.Names {
	out := api.Names{Ref: append([]int{}, names.Ref...), Free: [][]int{}}
	for _, one := range names.Free {
		out.Free = append(out.Free, append([]int{}, one...))
	}
	return out
}

// places are those in which an expression may stand, each marked by `@` in a program of its own.
func places() []string {
	return []string{
		"@;", "(@);", "-@;", "!@;", "<-@;", "val x = @;", "var x: int = @;", "var x: int; x = @;", "input <-= @;", "@ <-= 1;",
		"if @ { }", "if true { @; }", "if true { } else { @; }", "if true { } else if @ { }", "if true { } else if false { @; }",
		"if true { } else if false { } else { @; }", "while @ { }", "while true { @; }", "return @;", "begin @;", "begin @();", "{ @; }", "{ { @; } }",
		"select { case <-@ { } }", "select { case x = <-@ { } }", "select { case <-input { @; } }", "select { case x = <-input { @; } }",
		"select { case @ <-= 1 { } }", "select { case input <-= @ { } }", "select { case input <-= 1 { @; } }", "select { case <-input { } case <-@ { } }",
		"(@, 1);", "(1, @);", "(1, 2, @);", "[@];", "[1, @];", "fill(@, 1);", "fill(1, @);", "len(@);", "@();", "input(@);", "input(1, @);",
		"@[1];", "input[@];", "@.0;", "@ + 1;", "1 + @;", "@ || true;", "true && @;", "@ == 1;", "1 < @;", "1 * (2 - @);", "-(!(<-(@)));",
		"1 = @;", "1(@) = 1;", "(@) = 1;", "(@).0 = 1;", "(@)[1] = 1;", "@().0 = 1;", "1[@] = 2;", "[1][@].3 = 2;", "-@ = 1;", "@ + 1 = 2;", "@() = 1;", "[@][0] = 1;",
		"var x: int; x[@] = 1;", "var x: int; x[1].0[@] = 1;", "var x: int; x[@].0[1] = 1;",
		"prog() { @; };", "prog x() { { @; } };", "prog(x: int): int { return @; };", "prog() { prog() { @; }; };", "prog() { @; }();",
	}
}

// P5.1: a name is found in all these places, also in a prog that stands there; and what is wrong with one.
func TestPlaces(t *testing.T) {
	for _, place := range places() {
		at := func(before, what string) string { return before + strings.Replace(place, "@", what, 1) }
		means := func(src string, kind int) {
			t.Helper()
			l := parsed(t, src)
			names, f := scope.Names(l)
			if f != (api.Fault{}) {
				t.Errorf("%q: %v", src, f)
				return
			}
			found := 0
			for i, n := range l {
				if n.Kind == api.EName && n.Name == "a" {
					found++
				}
				if n.Kind == api.EName && n.Name == "a" && (names.Ref[i] != 1 || l[1].Kind != kind) {
					t.Errorf("%q: a means %d", src, names.Ref[i])
				}
				if n.Kind == api.EProg && !reflect.DeepEqual(names.Free[i], []int{1}) {
					t.Errorf("%q: %v is captured", src, names.Free[i])
				}
			}
			if found == 0 {
				t.Errorf("%q: no a", src)
			}
		}
		means(at("val a = 1; ", "a"), api.SVal)
		means(at("val a = 1; ", "prog() { a; }"), api.SVal)
		means(at("val a = 1; ", "(1, a, prog(): int { return a; }).0"), api.SVal)
		wantFault(t, api.ErrScopeName, at("", "^a"))
		wantFault(t, api.ErrScopeName, at("", "prog() { ^a; }"))
		wantFault(t, api.ErrScopeName, at("", "(1, ^a, b)"))
		wantFault(t, api.ErrScopeCapture, at("var a: int; ", "prog() { ^a; b; }"))
		if !strings.Contains(place, "prog") {
			means(at("var a: int; ", "a"), api.SVar)
		} else {
			wantFault(t, api.ErrScopeCapture, at("var a: int; ", "^a"))
		}
	}
}

// What each kind of block declares is in scope to its end, and no further; what it hid is back then.
func TestBlocks(t *testing.T) {
	wantNames(t, "val x = 1; { x; val x = 2; x; { x; val x = 3; x; } x; } x;", "x1 x2 x2 x3 x2 x1", "")
	wantNames(t, "val x = 1; if x { val x = x; x; } else if x { val x = x; x; } else { val x = x; x; } x;", "x1 x1 x2 x1 x1 x3 x1 x4 x1", "")
	wantNames(t, "val x = 1; while x { val x = x; x; } x;", "x1 x1 x2 x1", "")
	wantNames(t, "val x = 1; select { case <-x { x; val x = x; x; } case x <-= x { x; val x = x; x; } } x;", "x1 x1 x1 x2 x1 x1 x1 x1 x3 x1", "")
	wantNames(t, "val x = 1; select { case x = <-x { x; { val x = x; x; } x; } case x = <-x { x; } } x;", "x1 x2 x2 x3 x2 x1 x4 x1", "")
	wantNames(t, "{ val x = 1; x; } { var x: int; x; } { val x = 2; { val x = 3; } x; } val x = 4; x;", "x1 x2 x3 x5", "")
	wantNames(t, "val x = 1; { val y = x; val x = y; { val y = x; y; } x; y; } x;", "x1 y1 x2 y2 x2 y1 x1", "")
	wantFault(t, api.ErrScopeName, "{ val x = 1; } ^x;")
	wantFault(t, api.ErrScopeName, "{ val x = 1; { val x = 2; } x; } ^x;")
	wantFault(t, api.ErrScopeName, "if true { val x = 1; } else { ^x; }")
	wantFault(t, api.ErrScopeName, "if true { val x = 1; } else if ^x { }")
	wantFault(t, api.ErrScopeName, "if true { } else { val x = 1; } ^x;")
	wantFault(t, api.ErrScopeName, "while true { val x = 1; } ^x;")
	wantFault(t, api.ErrScopeName, "select { case x = <-input { val y = 1; x; y; } case <-^x { } }")
	wantFault(t, api.ErrScopeName, "select { case x = <-input { val y = 1; x; } case <-^y { } }")
	wantFault(t, api.ErrScopeName, "select { case x = <-^x { } }")
	wantFault(t, api.ErrScopeName, "select { case x = <-input { } } ^x;")
	wantFault(t, api.ErrScopeName, "select { case output <-= 1 { val x = 1; } } ^x;")
	wantFault(t, api.ErrScopeName, "val f = prog g(x: int) { val y = x; y; g; }; f; ^x;")
	wantFault(t, api.ErrScopeName, "val f = prog g(x: int) { val y = x; y; g; }; f; ^y;")
	wantFault(t, api.ErrScopeName, "val f = prog g(x: int) { val y = x; y; g; }; f; ^g;")
}

// A name is declared behind its own expression, and not seen ahead of it.
func TestBehind(t *testing.T) {
	wantFault(t, api.ErrScopeName, "^x; val x = 1;")
	wantFault(t, api.ErrScopeName, "var x: int = ^x;")
	wantFault(t, api.ErrScopeName, "val f = prog() { ^f(); };")
	wantFault(t, api.ErrScopeName, "val f = prog() { ^g(); }; val g = 1;")
	wantFault(t, api.ErrScopeName, "while ^x { val x = 1; }")
	wantFault(t, api.ErrScopeName, "{ ^x; } val x = 1;")
	wantNames(t, "val x = 1; { var x: int = x; x = x; }", "x1 x2 x2", "")
	wantNames(t, "val x = 1; { x; prog() { x; val x = x; x; }(); val x = 2; x; }", "x1 x1 x1 x2 x3", "[x1]")
	wantNames(t, "val f = prog f() { f(); }; f();", "f2 f1", "[]")
}

// input and output are outside of all blocks: the program's own may be hidden there already.
func TestWorld(t *testing.T) {
	wantNames(t, "input; output; { input; }", "in out in", "")
	wantNames(t, "val input = output; input; { val output = input; output; } output;", "out input1 input1 output1 out", "")
	wantNames(t, "input; var input: int; input = 1; { val input = 2; input; } input;", "in input1 input2 input1", "")
	wantNames(t, "val f = prog input(output: int) { input; output; }; input; output;", "input1 output1 in out", "[]")
	wantNames(t, "select { case output = <-output { output; } case input = <-input { input; output; } }", "out output1 in input1 out", "")
	wantNames(t, "val f = prog() { output <-= <-input; prog() { input; output; }; };", "out in in out", "[in out][out in]")
	wantNames(t, "val f = prog() { val input = input; input; prog() { input; output; }; };", "in input1 input1 out", "[input1 out][in out]")
	wantFault(t, api.ErrScopeTwice, "val input = 1; ^val input = 2;")
	wantFault(t, api.ErrScopeName, "^Input;")
	wantFault(t, api.ErrScopeSet, "^output = 1;")
	wantFault(t, api.ErrScopeSet, "val f = prog() { ^input[0] = 1; };")
	wantFault(t, api.ErrScopeCapture, "var input: int; val f = prog() { ^input; };")
}

func TestTwice(t *testing.T) {
	for _, first := range []string{"val x = 1;", "var x: int;", "var x: int = 1;"} {
		for _, second := range []string{"^val x = 1;", "^var x: int;", "^var x: int = 1;", "^val x = x;", "^var x: int = x;"} {
			for _, block := range []string{
				"@", "{ @ }", "val y = 1; @", "if true { @ }", "if true { } else { @ }", "while true { @ }", "prog() { @ };", "prog x() { @ };",
				"select { case <-input { @ } }", "select { case input <-= 1 { @ } }", "select { case y = <-input { @ } }", "val x = 1; { @ }", "{ val x = 1; { @ } }",
			} {
				wantFault(t, api.ErrScopeTwice, strings.Replace(block, "@", first+" { val x = 1; x; } x; prog x(x: int) { }; "+second, 1))
				wantFault(t, api.ErrScopeTwice, strings.Replace(block, "@", first+second, 1)+" z; val z = 1; val z = 1;")
			}
		}
	}
	for _, second := range []string{"^val x = 1;", "^var x: int;", "^val x = x;", "val y = x; { val x = 1; } ^var x: int = x;"} {
		wantFault(t, api.ErrScopeTwice, "prog(x: int) { "+second+" };")
		wantFault(t, api.ErrScopeTwice, "prog x(y1: int, x: int, z: int): int { "+second+" };")
		wantFault(t, api.ErrScopeTwice, "select { case x = <-input { "+second+" } }")
		wantFault(t, api.ErrScopeTwice, "val x = input; select { case x = <-x { "+second+" } }")
	}
	wantFault(t, api.ErrScopeTwice, "prog(a: int, ^a: int) { };")
	wantFault(t, api.ErrScopeTwice, "prog a(b: int, a: int, c: bool, ^a: int, b: int) { a; };")
	wantFault(t, api.ErrScopeTwice, "prog(a: int, b: prog(int): int, ^b: array of int) { val a = 1; };")
}

// What is not twice in one block.
func TestNotTwice(t *testing.T) {
	wantNames(t, "val f = prog f() { val f = 1; f; }; f;", "f3 f1", "[]")
	wantNames(t, "val f = prog g(a: int) { { val a = a; a; } a; if a { val a = 2; } while a { var a: int; } };", "a1 a2 a1 a1 a1", "[]")
	wantNames(t, "val f = prog(a: int) { prog(a: int) { a; }; select { case a = <-a { a; } } a; };", "a2 a1 a3 a1", "[][]")
	wantNames(t, "select { case x = <-input { { val x = x; x; } prog(x: int) { x; }; prog x() { x; }; select { case x = <-x { x; } } } }", "in x1 x2 x3 x4 x1 x5", "[][]")
	wantNames(t, "select { case x = <-input { x; } case x = <-input { x; } case <-input { val x = 1; x; } } val x = 1; x;", "in x1 in x2 in x3 x4", "")
	wantNames(t, "val x = prog x(x: int) { x; }; x; val X = x; val x_ = X; val _x = x_;", "x3 x1 x1 X1 x_1", "[]")
}

// Of values' names those of types are another kind.
func TestTypesAreNotSeen(t *testing.T) {
	wantNames(t, "type x = int; type y = array of x; val x = 1; var z: y; val f = prog y(z: x, w: y): x { var x: x; y; x; }; x;", "y1 x2 x1", "[]")
	wantNames(t, "var x: int; val c = make chan of x; val f = prog(x: x): x { var v: (x, x); };", "", "[]")
	wantFault(t, api.ErrScopeName, "type x = int; val y = ^x;")
	wantFault(t, api.ErrScopeName, "type x = int; { ^x = 1; }")
	wantNames(t, "type input = output; input; val f = prog() { var v: input; };", "in", "[]")
}

// Own names and parameters: one block, and one block further out.
func TestOwnNames(t *testing.T) {
	wantNames(t, "val g = 1; val f = prog g(a: int) { g; a; { g; val g = a; g; } g; }; g;", "g2 a1 g2 a1 g3 g2 g1", "[]")
	wantNames(t, "val f = prog g(g: int, f: int) { g; f; { val g = g; g; } };", "g2 f2 g2 g3", "[]")
	wantNames(t, "val f = prog g() { g; val g = g; g; };", "g1 g1 g2", "[]")
	wantNames(t, "val f = prog g() { var g: int; g = 1; };", "g2", "[]")
	wantNames(t, "val f = prog g() { prog g() { g; }; g; prog() { g; }; prog h(g: int) { g; h; }; };", "g2 g1 g1 g3 h1", "[][g1][][]")
	wantNames(t, "val f = prog g() { prog h() { prog() { g; h; }; h; }; };", "g1 h1 h1", "[g1 h1][g1][]")
	wantFault(t, api.ErrScopeName, "val f = prog() { prog g() { }; ^g; };")
	wantFault(t, api.ErrScopeName, "prog g() { }(^g);")
	wantFault(t, api.ErrScopeName, "(prog g(a: int) { g; a; }, ^g);")
}

// What is captured: each once, in the order in which it stands first; of what is declared inside, and of the prog itself, nothing.
func TestCaptured(t *testing.T) {
	pre := "val a = 1; val b = 2; val c = 3; "
	wantNames(t, pre+"prog() { };", "", "[]")
	wantNames(t, pre+"prog() { c; a; c; b; a; };", "c1 a1 c1 b1 a1", "[c1 a1 b1]")
	wantNames(t, pre+"prog() { val b = c; b; a; };", "c1 b2 a1", "[c1 a1]")
	wantNames(t, pre+"prog() { { val b = c; b; } b; };", "c1 b2 b1", "[c1 b1]")
	wantNames(t, pre+"prog(a: int) { a; b; };", "a2 b1", "[b1]")
	wantNames(t, pre+"prog() { select { case a = <-a { a; b; } case c <-= b { c; } } };", "a1 a2 b1 c1 b1 c1", "[a1 b1 c1]")
	wantNames(t, pre+"prog() { val x = prog() { a; }; b; a; };", "a1 b1 a1", "[a1][a1 b1]")
	wantNames(t, pre+"prog() { b; prog() { c; prog() { a; b; }; }; a; };", "b1 c1 a1 b1 a1", "[a1 b1][c1 a1 b1][b1 c1 a1]")
	wantNames(t, pre+"prog(x: int) { val y = x; prog(z: int) { a; y; x; z; prog() { z; y; b; }; }; };", "x1 a1 y1 x1 z1 z1 y1 b1", "[z1 y1 b1][a1 y1 x1 b1][a1 b1]")
	wantNames(t, pre+"prog() { a; }; prog() { b; a; }; prog() { a; };", "a1 b1 a1 a1", "[a1][b1 a1][a1]")
	wantNames(t, pre+"prog() { prog() { a; }; prog() { a; b; }; prog() { prog() { a; }; b; }; };", "a1 a1 b1 a1 b1", "[a1][a1 b1][a1][a1 b1][a1 b1]")
	wantNames(t, pre+"prog() { prog() { prog() { a; }; }; b; prog() { a; }; };", "a1 b1 a1", "[a1][a1][a1][a1 b1]")
	// Two declarations of one name are two.
	wantNames(t, "val x = 1; { val y = x; val x = 2; prog() { x; y; prog() { x; }; }; } prog() { x; };", "x1 x2 y1 x2 x1", "[x2][x2 y1][x1]")
	wantNames(t, "val x = 1; prog() { x; val x = x; prog() { x; val x = x; x; }; };", "x1 x1 x2 x2 x3", "[x2][x1]")
	// Arms' names, parameters and own names are captured as vals are; a var of the inner prog itself is none of it.
	wantNames(t, "select { case x = <-input { prog p(q: int) { prog() { x; q; p; input; }; }; } }", "in x1 q1 p1 in", "[x1 q1 p1 in][x1 in]")
	wantNames(t, "prog() { var v: int; v = 1; while v { v = 2; } { var w: int = v; w.0 = v; } };", "v1 v1 v1 v1 w1 v1", "[]")
	wantNames(t, "val a = 1; prog a() { prog() { a; }; a; }; prog() { a; };", "a2 a2 a1", "[a2][][a1]")
}

func TestCapture(t *testing.T) {
	wantFault(t, api.ErrScopeCapture, "var v: int; v; { v = 1; prog() { val v = ^v; }; }")
	wantFault(t, api.ErrScopeCapture, "prog() { var v: int; v; prog() { { ^v; } }; };")
	wantFault(t, api.ErrScopeCapture, "prog() { var v: int; prog() { prog() { ^v; }; v; }; };")
	wantFault(t, api.ErrScopeCapture, "prog(v: int) { v; { var v: int; prog v1() { ^v[0].1 = 1; }; } };")
	wantFault(t, api.ErrScopeCapture, "var f: prog(): int = prog f() { f; }; prog() { ^f; };")
	wantFault(t, api.ErrScopeCapture, "var v: int; begin prog() { output <-= ^v; }();")
	wantFault(t, api.ErrScopeCapture, "val x = 1; { var x: int; prog() { ^x; }; }")
	wantFault(t, api.ErrScopeCapture, "select { case x = <-input { var y: int; select { case y <-= prog() { ^y; } { } } } }")
	wantNames(t, "var v: int; prog v() { v; }; prog(v: int) { v; }; prog() { val v = 1; v; prog() { v; }; };", "v2 v3 v4 v4", "[][][v4][]")
	wantNames(t, "{ var x: int; } val x = 1; prog() { x; };", "x2", "[x2]")
	wantNames(t, "val x = 1; { var x: int; x = 1; } prog() { x; var x: int; x = x; };", "x2 x1 x3 x3", "[x1]")
}

// The name of a place that is set.
func TestSet(t *testing.T) {
	for _, place := range []string{"@", "@[0]", "@.0", "@.0[1].2[3][4].5.6", "@[@]", "@[v].1"} {
		at := func(what string) string { return strings.Replace(place, "@", what, 1) + " = 1;" }
		at2 := func(what string) string { return strings.ReplaceAll(at(what), "@", "v") }
		wantFault(t, api.ErrScopeSet, "var v: int; val x = 1; "+at2("^x"))
		wantFault(t, api.ErrScopeSet, "var v: int; "+at2("^input"))
		wantFault(t, api.ErrScopeSet, "var v: int; "+at2("^output"))
		wantFault(t, api.ErrScopeSet, "prog(x: int) { var v: int; "+at2("^x")+" };")
		wantFault(t, api.ErrScopeSet, "prog x() { var v: int; "+at2("^x")+" };")
		wantFault(t, api.ErrScopeSet, "select { case x = <-input { var v: int; "+at2("^x")+" } }")
		wantFault(t, api.ErrScopeSet, "val x = 1; prog() { var v: int; "+at2("^x")+" };")
		wantFault(t, api.ErrScopeSet, "var x: int; { val x = x; var v: int; "+at2("^x")+" }")
		wantFault(t, api.ErrScopeCapture, "var x: int; prog() { var v: int; "+at2("^x")+" };")
		wantFault(t, api.ErrScopeName, "var v: int; "+at2("^x"))
		src := "val x = 1; { var v: int; var x: int; " + at2("x") + " } x;"
		wantNames(t, src, "x2 "+strings.Repeat("v1 ", strings.Count(at2("x"), "v"))+"x1", "")
	}
	// Of what is no place, and of the other names of a place, nothing is said.
	for _, place := range []string{"(x)", "x()", "(x)[0]", "(x).0", "x().0", "-x", "<-x", "x + x", "(x, x)", "[x][0]", "[x]", "len(x)", "fill(x, x)", "(v)[x]", "v[x]", "v[x].0[x]", "v(x)", "1[x]"} {
		l := parsed(t, "var v: int; val x = 1; "+place+" = x;")
		if _, f := scope.Names(l); f != (api.Fault{}) {
			t.Errorf("%q: %v", place, f)
		}
	}
	// A set inside of a set, ahead of and behind the other names of it.
	wantFault(t, api.ErrScopeSet, "var v: int; val x = 1; v[prog() { ^x = 1; }] = x;")
	wantFault(t, api.ErrScopeSet, "var v: int; val x = 1; v = prog() { var w: int; w = 1; ^x = 1; };")
	wantFault(t, api.ErrScopeSet, "var v: int; val x = 1; ^x[prog() { x = 1; }] = v;")
	wantNames(t, "var v: int; val x = 1; v[prog() { var w: int; w[x] = x; }][x] = x;", "v1 w1 x1 x1 x1 x1", "[x1]")
	wantNames(t, "var v: int; val x = 1; v = 1; x; (v) = 1; (x) = 1; x == v;", "v1 x1 v1 x1 x1 v1", "")
	wantFault(t, api.ErrScopeSet, "var v: int; val x = 1; v = v; (v) = v; ^x = v;")
}

// Of several faults the first in the walk is told.
func TestFirst(t *testing.T) {
	wantFault(t, api.ErrScopeName, "val x = 1; val x = ^y; x = 1;")
	wantFault(t, api.ErrScopeTwice, "val x = 1; ^val x = 2; y;")
	wantFault(t, api.ErrScopeTwice, "var x: int; ^val x = 2; x = y; prog() { x; };")
	wantFault(t, api.ErrScopeSet, "val x = 1; ^x[y] = z;")
	wantFault(t, api.ErrScopeName, "var v: int; val x = 1; v[^y] = z; x = 1;")
	wantFault(t, api.ErrScopeName, "val x = 1; ^y = x; x = 1;")
	wantFault(t, api.ErrScopeName, "var v: int; (^a, prog() { v; });")
	wantFault(t, api.ErrScopeCapture, "var v: int; (prog() { ^v; }, a);")
	wantFault(t, api.ErrScopeCapture, "var v: int; val v1 = prog() { ^v; }; val v1 = 1;")
	wantFault(t, api.ErrScopeTwice, "var v: int; prog(a: int, ^a: int) { v; };")
	wantFault(t, api.ErrScopeTwice, "var v: int; prog() { val a = 1; ^val a = 2; v; };")
	wantFault(t, api.ErrScopeName, "if ^a { val x = 1; val x = 2; } else { b; }")
	wantFault(t, api.ErrScopeTwice, "if true { val x = 1; ^val x = 2; } else if b { c; }")
	wantFault(t, api.ErrScopeName, "while ^a { b; }")
	wantFault(t, api.ErrScopeName, "^a <-= b;")
	wantFault(t, api.ErrScopeName, "select { case x = <-^a { val x = 1; b; } }")
	wantFault(t, api.ErrScopeTwice, "select { case x = <-input { ^val x = 1; b; } case <-c { } }")
	wantFault(t, api.ErrScopeName, "select { case ^a <-= b { c; } case <-d { } }")
	wantFault(t, api.ErrScopeName, "select { case input <-= ^b { c; } case <-d { } }")
	wantFault(t, api.ErrScopeName, "select { case input <-= 1 { ^c; } case <-d { } }")
	wantFault(t, api.ErrScopeName, "^f(a, b);")
	wantFault(t, api.ErrScopeName, "^a[b];")
	wantFault(t, api.ErrScopeName, "^a + b * c;")
	wantFault(t, api.ErrScopeName, "1 + ^b * c;")
	wantFault(t, api.ErrScopeName, "fill(^a, b);")
	wantFault(t, api.ErrScopeName, "{ { ^a; } b; } c;")
}

// A fault's At is the node's own, which need not be what a source would give; R8's is a node's number.
func TestAt(t *testing.T) {
	l := parsed(t, "val a = 1; val b = a; a;") // 0 EInt, 1 SVal, 2 EName, 3 SVal, 4 EName, 5 SDo, 6 NProgram
	for i := range l {
		l[i].At = 1000 - 7*i
	}
	l[4].Name = "c"
	wantRefused(t, l, api.Fault{At: l[4].At, Code: api.ErrScopeName})
	l[3].Name = "a"
	wantRefused(t, l, api.Fault{At: l[3].At, Code: api.ErrScopeTwice})
	l[2].Name = "c"
	wantRefused(t, l, api.Fault{At: l[2].At, Code: api.ErrScopeName})
	l[6].Kids = nil
	wantRefused(t, l, api.Fault{At: 7, Code: api.ErrTreeRoot})
	l[5].Kids = nil
	wantRefused(t, l, api.Fault{At: 5, Code: api.ErrTreeKids})
	l[4].Name = "val"
	wantRefused(t, l, api.Fault{At: 4, Code: api.ErrTreeName})
	l[3].Num = 1
	wantRefused(t, l, api.Fault{At: 3, Code: api.ErrTreeNum})
	l[2].At = -1
	wantRefused(t, l, api.Fault{At: 2, Code: api.ErrTreeNode})
	l[0].Num = -1
	wantRefused(t, l, api.Fault{At: 0, Code: api.ErrTreeNum})
	wantRefused(t, nil, api.Fault{At: 0, Code: api.ErrTreeRoot})
	wantRefused(t, []api.Node{{Kind: api.EName, Name: "a"}}, api.Fault{At: 1, Code: api.ErrTreeRoot})

	l = parsed(t, "a; (1 + 2) * 3;")
	for i := range l {
		if l[i].Kind == api.EParen {
			l[i] = api.Node{Kind: api.EUnary, Num: api.OpNeg, Kids: l[i].Kids}
			wantRefused(t, l, api.Fault{At: i, Code: api.ErrTreeLevel})
		}
	}
	wantNames(t, "", "", "")
}
