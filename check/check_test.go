package check_test

import (
	"reflect"
	"strings"
	"testing"

	"squint/api"
	"squint/check"
	"squint/kinds"
	"squint/parse"
	"squint/scope"
	"squint/tree"
)

func parsed(t *testing.T, src string) []api.Node {
	t.Helper()
	l, f := parse.Parse([]byte(src), api.MaxNest)
	if f != (api.Fault{}) {
		t.Fatalf("%q: %v", src, f)
	}
	return l
}

// wantFault: the mark `^` stands ahead of the place at which a source is refused.
func wantFault(t *testing.T, code api.Errno, marked string) {
	t.Helper()
	at := strings.Index(marked, "^")
	wantRefused(t, parsed(t, marked[:at]+marked[at+1:]), api.Fault{At: at, Code: code})
}

func wantRefused(t *testing.T, l []api.Node, want api.Fault) {
	t.Helper()
	typed, names, f := check.Check(l)
	if f != want || !isNothing(typed, names) {
		text, _ := tree.Print(l)
		t.Errorf("%q: %v, %v, %v, not %v", text, typed, names, f, want)
	}
}

func isNothing(typed api.Typed, names api.Names) bool {
	return len(typed.Types)+len(typed.Of)+len(names.Ref)+len(names.Free) == 0
}

// taken is what Check tells of a source of which nothing is wrong.
func taken(t *testing.T, src string) ([]api.Node, api.Typed) {
	t.Helper()
	l := parsed(t, src)
	typed, names, f := check.Check(l)
	if f != (api.Fault{}) {
		t.Fatalf("%q: %v", src, f)
	}
	want, _ := scope.Names(l)
	if !reflect.DeepEqual(names, want) {
		t.Errorf("%q: names %v, not %v", src, names, want)
	}
	if len(typed.Of) != len(l) || !kinds.Valid(typed.Types) {
		t.Errorf("%q: %v", src, typed)
	}
	return l, typed
}

func wantTaken(t *testing.T, sources ...string) {
	t.Helper()
	for _, src := range sources {
		taken(t, src)
	}
}

// shown writes a row as the language writes types, so many rows deep.
func shown(types []api.Type, row, deep int) string {
	if row < 0 {
		return "none"
	}
	if deep == 0 {
		return ".."
	}
	of := types[row]
	var kids []string
	for _, kid := range of.Kids {
		kids = append(kids, shown(types, kid, deep-1))
	}
	switch of.Kind {
	case api.KInt:
		return "int"
	case api.KBool:
		return "bool"
	case api.KArray:
		return "array of " + kids[0]
	case api.KChan:
		return "chan of " + kids[0]
	case api.KTuple:
		return "(" + strings.Join(kids, ", ") + ")"
	}
	last := len(kids) - 1
	if !of.Res {
		return "prog(" + strings.Join(kids, ", ") + ")"
	}
	return "prog(" + strings.Join(kids[:last], ", ") + "): " + kids[last]
}

// wantDeclared holds the types of all declarations, in the order of the list, against what is wanted.
func wantDeclared(t *testing.T, src string, want ...string) {
	t.Helper()
	l, typed := taken(t, src)
	var got []string
	for i, n := range l {
		switch n.Kind {
		case api.SVal, api.SVar, api.NParam, api.NRecv, api.EProg:
			if n.Name != "" {
				got = append(got, n.Name+": "+shown(typed.Types, typed.Of[i], 4))
			}
		}
	}
	if !reflect.DeepEqual(got, want) {
		t.Errorf("%q: %q, not %q", src, got, want)
	}
}

// wantRows holds the whole of an answer against what is wanted.
func wantRows(t *testing.T, src string, types []api.Type, of ...int) {
	t.Helper()
	_, typed := taken(t, src)
	for i := range typed.Types {
		if len(typed.Types[i].Kids) == 0 {
			typed.Types[i].Kids = nil
		}
	}
	if !reflect.DeepEqual(typed.Types, types) {
		t.Errorf("%q: types %v, not %v", src, typed.Types, types)
	}
	if !reflect.DeepEqual(typed.Of, of) {
		t.Errorf("%q: of the nodes %v, not %v", src, typed.Of, of)
	}
}

func row(kind int, kids ...int) api.Type { return api.Type{Kind: kind, Kids: kids} }

func giving(kids ...int) api.Type { return api.Type{Kind: api.KProg, Kids: kids, Res: true} }

// The chapter's examples, and DOC.md's seventh and eighth.
func TestExamples(t *testing.T) {
	wantRows(t, "val x = 1;", []api.Type{row(api.KInt), row(api.KBool), row(api.KChan, 0)}, 0, 0, -1)
	l, typed := taken(t, "val t = (1, true); val y = t.1;")
	if !reflect.DeepEqual(typed.Types[3], row(api.KTuple, 0, 1)) || typed.Of[len(l)-2] != 1 {
		t.Error(typed)
	}
	// 0 TInt, 1 NParam, 2 TInt, 3 EName g, 4 EName n, 5 EInt, 6 EBin, 7 ECall, 8 SReturn, 9 SBlock, 10 EProg, 11 SVal, 12 NProgram
	wantRows(t, "val f = prog g(n: int): int { return g(n - 1); };",
		[]api.Type{row(api.KInt), row(api.KInt), row(api.KInt), row(api.KBool), row(api.KChan, 2), giving(0, 1)},
		0, 0, 1, 5, 0, 2, 2, 1, -1, -1, 5, 5, -1)
	wantFault(t, api.ErrCheckType, "1 ^+ true;")
	wantFault(t, api.ErrCheckIdle, "^1 + 2;")
	wantFault(t, api.ErrCheckNone, "^val x = prog() { }();")
	wantTaken(t, "(prog() { }());", "begin (prog() { }());")
	wantFault(t, api.ErrCheckMiss, "val f = ^prog(): int { while true { return 1; } };")
	wantTaken(t, "val f = prog(): int { select { } };")
	wantFault(t, api.ErrCheckReturn, "^return 1;")
	wantFault(t, api.ErrCheckPlace, "var x: int; (x) ^= 1;")
	wantFault(t, api.ErrCheckKind, "val a = [1, 2]; val b = a ^== a;")
	wantFault(t, api.ErrCheckType, "val c = make chan of int; c ^<-= true;")
	wantTaken(t, "type T = chan of T; val c = make chan of T; c <-= c;")
	wantFault(t, api.ErrScopeName, "val x = ^y;")

	wantFault(t, api.ErrScopeName, "val x = 1; val f = prog() { output <-= ^y; };")
	wantTaken(t, "type T = chan of T; type U = chan of chan of U; var a: T; var b: U = a;")
}

// P6.2: types, then int, bool and chan of int, then progs, then tuples and arrays, each in the order of the list.
func TestRows(t *testing.T) {
	wantRows(t, "", []api.Type{row(api.KInt), row(api.KBool), row(api.KChan, 0)}, -1)
	// 0 TInt, 1 TArray, 2 TName A, 3 TChan, 4 TTuple, 5 NType, 6 NProgram
	wantRows(t, "type A = (array of int, chan of A);", []api.Type{
		row(api.KInt), row(api.KArray, 0), row(api.KChan, 3), row(api.KTuple, 1, 2),
		row(api.KInt), row(api.KBool), row(api.KChan, 4),
	}, 0, 1, 3, 2, 3, -1, -1)
	// A tuple in an array, and behind it a prog with an array in it.
	wantRows(t, "val x = [(1, true)]; val f = prog(a: bool): int { val b = fill(1, a); return len(b); };", []api.Type{
		row(api.KBool), row(api.KInt), // a's type, the result's
		row(api.KInt), row(api.KBool), row(api.KChan, 2),
		giving(0, 1),
		row(api.KTuple, 2, 3), row(api.KArray, 6), row(api.KArray, 0),
	},
		2, 3, 6, 7, 7, // EInt, EBool, ETuple, EArray, SVal
		0, 0, 1, // TBool, NParam, TInt
		2, 0, 8, 8, // EInt, EName, EFill, SVal
		8, 2, -1, -1, // EName, ELen, SReturn, SBlock
		5, 5, -1) // EProg, SVal, NProgram
	// An inner prog stands ahead of the one around it; parameters' rows are their types', by whatever name.
	wantRows(t, "type I = int; val f = prog(c: chan of I, i: I) { val g = prog g(): I { return i; }; g(); };", []api.Type{
		row(api.KInt), row(api.KChan, 0),
		row(api.KInt), row(api.KBool), row(api.KChan, 2),
		giving(0), row(api.KProg, 1, 0),
	},
		0, -1, // TInt, NType
		0, 1, 1, 0, 0, // TName, TChan, NParam, TName, NParam
		0, 0, -1, -1, 5, 5, // TName, EName, SReturn, SBlock, EProg, SVal
		5, 0, -1, -1, // EName, ECall, SDo, SBlock
		6, 6, -1) // EProg, SVal, NProgram
}

// P6.3: of each kind of expression the type, which its val has.
func TestTypesOfExpressions(t *testing.T) {
	wantDeclared(t, "val a = 1; val b = true; val c = a; val d = ((b));", "a: int", "b: bool", "c: int", "d: bool")
	wantDeclared(t, "val a = input; val b = output; val c = <-input;", "a: chan of int", "b: chan of int", "c: int")
	wantDeclared(t, "val a = (1, true, (2, false)); val b = a.0; val c = a.2; val d = a.2.1;", "a: (int, bool, (int, bool))", "b: int", "c: (int, bool)", "d: bool")
	wantDeclared(t, "val a = [true, false]; val b = [[1], [2, 3]]; val c = b[0]; val d = b[0][0]; val e = a[1];", "a: array of bool", "b: array of array of int", "c: array of int", "d: int", "e: bool")
	wantDeclared(t, "val a = fill(3, true); val b = len(a); val c = fill(b, a);", "a: array of bool", "b: int", "c: array of array of bool")
	wantDeclared(t, "val a = make chan of bool; val b = make chan of chan of int; val c = <-b; val d = <-<-b; val e = <-a;", "a: chan of bool", "b: chan of chan of int", "c: chan of int", "d: int", "e: bool")
	wantDeclared(t, "val a = prog() { }; val b = prog(x: int, y: bool) { }; val c = prog(): bool { return true; };", "a: prog()", "x: int", "y: bool", "b: prog(int, bool)", "c: prog(): bool")
	wantDeclared(t, "val a = prog b(): prog(int): bool { return prog(i: int): bool { return i == 1; }; }; val c = a()(2); val d = a();", "i: int", "b: prog(): prog(int): bool", "a: prog(): prog(int): bool", "c: bool", "d: prog(int): bool")
	wantDeclared(t, "val a = -1; val b = !true; val c = 1 + 2; val d = 1 - 2 * 3 / 4 % 5;", "a: int", "b: bool", "c: int", "d: int")
	wantDeclared(t, "val a = 1 < 2; val b = 1 <= 2; val c = 1 > 2; val d = 1 >= 2; val e = 1 == 2; val f = true != false; val g = true || false; val h = true && false;",
		"a: bool", "b: bool", "c: bool", "d: bool", "e: bool", "f: bool", "g: bool", "h: bool")
}

// P6.3: what a name has is what declares it; a hidden one is not meant.
func TestTypesOfNames(t *testing.T) {
	wantDeclared(t, "var a: bool; var b: chan of int = input; val c = a; { val a = 1; val d = a; } val e = a;", "a: bool", "b: chan of int", "c: bool", "a: int", "d: int", "e: bool")
	wantDeclared(t, "val c = make chan of (int, bool); select { case x = <-c { val y = x; val z = y.1; } case <-c { } case c <-= (1, true) { } }", "c: chan of (int, bool)", "y: (int, bool)", "z: bool", "x: (int, bool)")
	wantDeclared(t, "val c = 1; val f = prog f(c: bool, d: array of bool): int { val g = f; val e = c; return f(e, d); };", "c: int", "c: bool", "d: array of bool", "g: prog(bool, array of bool): int", "e: bool", "f: prog(bool, array of bool): int", "f: prog(bool, array of bool): int")
	wantDeclared(t, "val input = true; val output = input;", "input: bool", "output: bool")
}

// P6.3: nodes that have no type, and those that might be taken to have one.
func TestNoType(t *testing.T) {
	// An arm without a name has none, though what it receives has one.
	l, typed := taken(t, "type T = int; val f = prog() { }; select { case <-input { f(); (f()); begin f(); } case x = <-input { return; } case output <-= 1 { } } if true { } while false { } { } var v: int; v = 1; output <-= v;")
	untyped := map[int]int{}
	for i, n := range l {
		if typed.Of[i] == -1 {
			untyped[n.Kind]++
		} else if n.Kind > api.SVar && n.Kind != api.NRecv {
			t.Errorf("node %d, %v, has the row %d", i, n, typed.Of[i])
		}
	}
	want := map[int]int{api.NType: 1, api.ECall: 3, api.EParen: 1, api.SDo: 2, api.SBegin: 1, api.SReturn: 1, api.SSelect: 1, api.NRecv: 1, api.NSend: 1, api.SIf: 1, api.SWhile: 1, api.SBlock: 7, api.SSet: 1, api.SSend: 1, api.NProgram: 1}
	if !reflect.DeepEqual(untyped, want) {
		t.Errorf("without a type: %v, not %v", untyped, want)
	}
}

// Types that name themselves, and types that are written in other ways.
func TestTypesWrittenOtherwise(t *testing.T) {
	wantDeclared(t, "type T = chan of T; val c = make chan of T; val d = <-c; val e = <-<-d;", "c: chan of chan of chan of chan of ..", "d: chan of chan of chan of chan of ..", "e: chan of chan of chan of chan of ..")
	wantTaken(t,
		"type A = B; type B = int; var a: A; var b: B = a; var c: int = b; a = c; val d = a + b + c;",
		"type P = (int, bool); var p: P = (1, true); p = (p.0, p.1); p.0 = 1; p.1 = p.1; val q = [p, (2, false)];",
		"type L = (int, array of L); var l: L; l = (1, [l]); l = l.1[0]; l.1[2].1[3].0 = 4; l.1 = [(1, fill(0, l)), l];",
		"type T = chan of T; type U = chan of chan of U; val c = make chan of T; val d = make chan of U; c <-= d; d <-= c; val e = c == d; val f = [c, d];",
		"type F = prog(F): int; val f = prog g(h: F): int { return h(g); }; f(f);",
		"type F = prog(F): G; type G = prog(G): F; val f = prog(x: F): G { return x; }; val g = prog(x: G): F { return x; }; f(g); g(f);",
		"val f = prog(x: prog(int): bool): prog(): bool { return prog(): bool { return x(1); }; }; val b = f(prog(n: int): bool { return n > 0; })();",
		"type T = array of T; var a: T; a = [a, [a], fill(2, a)]; a[0][1] = a; a = a[0]; val n = len(a[1][2]);",
	)
	// U's element is a chan, T's an int.
	wantFault(t, api.ErrCheckType, "type T = chan of int; type U = chan of U; val c = make chan of T; val d = make chan of U; c ^<-= d;")
	wantFault(t, api.ErrCheckType, "type T = array of T; type U = array of array of int; var a: T; ^var b: U = a;")
	wantFault(t, api.ErrCheckType, "type F = prog(F): int; type G = prog(G); var f: F; var g: G; f ^= g;")
	wantFault(t, api.ErrCheckType, "var f: prog(int); ^var g: prog(): int = f;")
	wantFault(t, api.ErrCheckType, "var t: (int, bool); t ^= (true, 1);")
	wantFault(t, api.ErrCheckType, "var t: (int, int); t ^= (1, 2, 3);")
	wantFault(t, api.ErrCheckType, "var t: chan of int; t ^= fill(1, 1);")
}

// P6.1: the faults of the layers below, in their order, whatever else is wrong.
func TestFaultsFromBelow(t *testing.T) {
	wantRefused(t, nil, api.Fault{At: 0, Code: api.ErrTreeRoot})
	wantRefused(t, []api.Node{{Kind: api.EInt}}, api.Fault{At: 1, Code: api.ErrTreeRoot})
	wantRefused(t, []api.Node{{Kind: api.EInt, At: 5, Name: "x"}, {Kind: api.SDo, Kids: []int{0}}, {Kind: api.NProgram, Kids: []int{1}}}, api.Fault{At: 0, Code: api.ErrTreeName})
	wantFault(t, api.ErrKindTwice, "type A = int; ^type A = B; 1 + true; y;")
	wantFault(t, api.ErrKindName, "1 + true; y; var x: ^A;")
	wantFault(t, api.ErrKindOpen, "^type A = A; 1 + true; y;")
	wantFault(t, api.ErrScopeName, "1 + true; ^y;")
	wantFault(t, api.ErrScopeTwice, "1; val x = 1; ^val x = 2;")
	wantFault(t, api.ErrScopeCapture, "1; var v: int; val f = prog() { ^v = true; };")
	wantFault(t, api.ErrScopeSet, "1; val v = 1; ^v = true;")
	wantFault(t, api.ErrScopeSet, "^input = output;")
}
