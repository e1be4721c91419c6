package check_test

import (
	"strings"
	"testing"

	"squint/api"
)

// sorts are expressions of all sorts of types, by names that the head declares; the same type has the same number.
var sorts = []struct {
	expr string
	typ  int
	kind int
}{
	{"i", 1, api.KInt},
	{"j", 1, api.KInt},
	{"b", 2, api.KBool},
	{"input", 3, api.KChan},
	{"c", 3, api.KChan},
	{"d", 4, api.KChan},
	{"t", 5, api.KChan},
	{"u", 5, api.KChan},
	{"a", 6, api.KArray},
	{"e", 7, api.KArray},
	{"r", 8, api.KArray},
	{"p", 9, api.KTuple},
	{"q", 9, api.KTuple},
	{"w", 10, api.KTuple},
	{"f", 11, api.KProg},
	{"g", 12, api.KProg},
	{"h", 13, api.KProg},
	{"k", 14, api.KProg},
	{"f()", 0, 0},
	{"(f())", 0, 0},
}

const head = "type T = chan of T; type U = chan of chan of U; type R = array of R; type I = int; " +
	"var i: int; var j: I; var b: bool; var c: chan of I; var d: chan of bool; var t: T; var u: U; " +
	"var a: array of int; var e: array of bool; var r: R; var p: (int, bool); var q: (I, bool); var w: (bool, int); " +
	"var f: prog(); var g: prog(): int; var h: prog(int); var k: prog(int, bool): T; "

// wantCode: the statement that stands behind the head is refused (or taken), at its mark.
func wantCode(t *testing.T, code api.Errno, marked string) {
	t.Helper()
	if code == api.OK {
		wantTaken(t, head+strings.Replace(marked, "^", "", 1))
		return
	}
	wantFault(t, code, head+marked)
}

// first is the first error that is not OK.
func first(codes ...api.Errno) api.Errno {
	for _, code := range codes {
		if code != api.OK {
			return code
		}
	}
	return api.OK
}

func unless(holds bool, code api.Errno) api.Errno {
	if holds {
		return api.OK
	}
	return code
}

// P6.4: every operator with all that may stand left and right of it.
func TestBinary(t *testing.T) {
	for op, wants := range map[string]int{
		"||": api.KBool, "&&": api.KBool, "==": 0, "!=": 0, "<": api.KInt, "<=": api.KInt, ">": api.KInt, ">=": api.KInt,
		"+": api.KInt, "-": api.KInt, "*": api.KInt, "/": api.KInt, "%": api.KInt,
	} {
		for _, x := range sorts {
			for _, y := range sorts {
				code := unless(x.typ != 0 && y.typ != 0, api.ErrCheckNone)
				if wants == 0 {
					simple := x.kind == api.KInt || x.kind == api.KBool || x.kind == api.KChan
					code = first(code, unless(x.typ == y.typ, api.ErrCheckType), unless(simple, api.ErrCheckKind))
				} else {
					code = first(code, unless(x.kind == wants && y.kind == wants, api.ErrCheckType))
				}
				wantCode(t, code, "val z = "+x.expr+" ^"+op+" "+y.expr+";")
			}
		}
	}
}

// P6.4: what wants one thing of one expression.
func TestOfOne(t *testing.T) {
	for _, one := range []struct {
		marked string // with X in the place of the expression
		kind   int    // what is wanted of it (0: but a type)
		code   api.Errno
	}{
		{"val z = ^-X;", api.KInt, api.ErrCheckType},
		{"val z = ^!X;", api.KBool, api.ErrCheckType},
		{"val z = ^<-X;", api.KChan, api.ErrCheckKind},
		{"val z = ^len(X);", api.KArray, api.ErrCheckKind},
		{"val z = ^fill(X, 1);", api.KInt, api.ErrCheckType},
		{"val z = ^fill(1, X);", 0, api.OK},
		{"val z = ^(1, X);", 0, api.OK},
		{"val z = ^(X, 1, 2);", 0, api.OK},
		{"val z = ^[X];", 0, api.OK},
		{"val z = a^[X];", api.KInt, api.ErrCheckType},
		{"val z = X^[1];", api.KArray, api.ErrCheckKind},
		{"val z = X^.0;", api.KTuple, api.ErrCheckKind},
		{"val z = X^.1;", api.KTuple, api.ErrCheckKind},
		{"^val z = X;", 0, api.OK},
		{"^val z = (X);", 0, api.OK},
		{"^if X { }", api.KBool, api.ErrCheckType},
		{"^if X { } else { }", api.KBool, api.ErrCheckType},
		{"if b { } else ^if X { }", api.KBool, api.ErrCheckType},
		{"^while X { }", api.KBool, api.ErrCheckType},
		{"select { ^case <-X { } }", api.KChan, api.ErrCheckKind},
		{"select { case <-input { } ^case z = <-(X) { } }", api.KChan, api.ErrCheckKind},
	} {
		for _, x := range sorts {
			code := first(unless(x.typ != 0, api.ErrCheckNone), unless(one.kind == 0 || x.kind == one.kind, one.code))
			wantCode(t, code, strings.Replace(one.marked, "X", x.expr, 1))
		}
	}
}

// P6.4: what wants two to be the same type.
func TestOfTwo(t *testing.T) {
	for _, x := range sorts {
		for _, y := range sorts {
			typed := unless(x.typ != 0 && y.typ != 0, api.ErrCheckNone)
			same := first(typed, unless(x.typ == y.typ, api.ErrCheckType))
			wantCode(t, same, "val z = ^["+x.expr+", "+y.expr+"];")
			wantCode(t, same, "val z = ^["+x.expr+", "+x.expr+", "+y.expr+"];")
			if x.typ != 0 && x.expr != "input" {
				wantCode(t, same, x.expr+" ^= "+y.expr+";")
			}
			wantCode(t, typed, "val z = ^("+x.expr+", "+y.expr+");")
			wantCode(t, first(typed, unless(x.kind == api.KInt, api.ErrCheckType)), "val z = ^fill("+x.expr+", "+y.expr+");")
			wantCode(t, first(typed, unless(x.kind == api.KArray, api.ErrCheckKind), unless(y.kind == api.KInt, api.ErrCheckType)), "val z = "+x.expr+"^["+y.expr+"];")
			// What may be sent: an int on input and c, a bool on d, a T on t and u, which is the same as these are.
			element := map[int]int{3: 1, 4: 2, 5: 5}[x.typ]
			send := first(typed, unless(x.kind == api.KChan, api.ErrCheckKind), unless(y.typ == element, api.ErrCheckType))
			wantCode(t, send, x.expr+" ^<-= "+y.expr+";")
			wantCode(t, send, "select { ^case "+x.expr+" <-= "+y.expr+" { } }")
		}
	}
}

// P6.4: what is declared, returned and passed must have the type that is written there.
func TestWrittenTypes(t *testing.T) {
	// A prog may not use the head's names: it has parameters of theirs.
	vars := strings.ReplaceAll(head[strings.Index(head, "var "):], "var ", "")
	params := strings.TrimSuffix(strings.ReplaceAll(vars, "; ", ", "), ", ")
	written := map[string]int{"int": 1, "I": 1, "bool": 2, "chan of int": 3, "T": 5, "chan of U": 5, "R": 8, "array of R": 8, "array of array of array of R": 8, "array of int": 6, "(I, bool)": 9, "prog()": 11, "prog(): I": 12, "prog(I)": 13, "prog(int, bool): U": 14, "prog(int, bool, T)": 15}
	for text, typ := range written {
		for _, x := range sorts {
			code := first(unless(x.typ != 0, api.ErrCheckNone), unless(x.typ == typ, api.ErrCheckType))
			wantCode(t, code, "^var z: "+text+" = "+x.expr+";")
			wantCode(t, code, "prog(z: "+text+") { }^("+x.expr+");")
			wantCode(t, code, "prog(y: int, z: "+text+"): int { return y; }^(1, "+x.expr+");")
			wantCode(t, code, "val m = prog("+params+"): "+text+" { ^return "+x.expr+"; };")
		}
	}
}

// P6.4: calls.
func TestCalls(t *testing.T) {
	for _, x := range sorts {
		code := first(unless(x.typ != 0, api.ErrCheckNone), unless(x.kind == api.KProg, api.ErrCheckKind), unless(x.typ == 11 || x.typ == 12, api.ErrCheckMany))
		wantCode(t, code, x.expr+"^();")
		wantCode(t, code, "begin "+x.expr+"^();")
	}
	wantTaken(t, head+"h(1); k(1, true); val z = k(i, b); t = k(j, b); begin h(i); begin k(i, b); begin g(); (g()); val y = g() + 1;")
	wantCode(t, api.ErrCheckMany, "h^();")
	wantCode(t, api.ErrCheckMany, "h^(1, 2);")
	wantCode(t, api.ErrCheckMany, "f^(1);")
	wantCode(t, api.ErrCheckMany, "g^(1);")
	wantCode(t, api.ErrCheckMany, "k^(1);")
	wantCode(t, api.ErrCheckMany, "k^(1, b, t);")
	wantCode(t, api.ErrCheckType, "k^(b, b);")
	wantCode(t, api.ErrCheckType, "k^(1, 1);")
	wantCode(t, api.ErrCheckType, "k^(b, 1);")
	wantCode(t, api.ErrCheckType, "begin h^(b);")
	// The first of what is wrong: no type, no prog, too many, another type.
	wantCode(t, api.ErrCheckNone, "i^(f());")
	wantCode(t, api.ErrCheckNone, "h^(true, f());")
	wantCode(t, api.ErrCheckNone, "f()^();")
	wantCode(t, api.ErrCheckKind, "i^(1, 2);")
	wantCode(t, api.ErrCheckMany, "h^(true, 1);")
	// A call without a result has none in parentheses, too; what has one may be dropped.
	wantCode(t, api.ErrCheckNone, "^val z = ((f()));")
	wantCode(t, api.ErrCheckNone, "val z = prog() { }() ^== 1;")
	wantCode(t, api.ErrCheckNone, "f(^-(f()));")
}

// P6.4: parts of tuples.
func TestFields(t *testing.T) {
	wantTaken(t, head+"val x = p.0 + 1; val y = p.1 && b; val z = ((1, 2), true).0.1;")
	for _, num := range []string{"2", "3", "9223372036854775807"} {
		wantCode(t, api.ErrCheckMany, "val z = p^."+num+";")
		wantCode(t, api.ErrCheckMany, "p^."+num+" = 1;")
		wantCode(t, api.ErrCheckKind, "val z = a^."+num+";")
	}
	wantCode(t, api.ErrCheckMany, "val z = (1, 2, 3)^.3;")
	wantTaken(t, head+"val z = (1, 2, 3).2;")
	// More parts than two.
	many := "(0" + strings.Repeat(", 1", 299) + ")"
	wantTaken(t, "val z = "+many+".299;")
	wantFault(t, api.ErrCheckMany, "val z = "+many+"^.300;")
}

// P6.4: places.
func TestPlaces(t *testing.T) {
	wantTaken(t, head+"i = 1; a[0] = 1; a[i] = i; p.0 = 1; p.1 = b; r[1][2][3] = r;",
		"var x: array of (int, array of bool); x[0].1[2] = true; x[0].1 = [true]; x[1] = (1, [false]); x = [x[0]];",
		"var x: int; val f = prog() { var x: (int, int); x.0 = 1; };",
		"val c = make chan of array of int; var x: int; x = (<-c)[0];",
		// An index may be whatever is an int.
		"var a: array of int; a[(0)] = 1; a[len(a)] = 2; a[prog(): int { return 1; }()] = 3; a[<-input] = 4;")
	for _, place := range []string{"1", "true", "(i)", "(a)[0]", "(p).0", "f()", "g()", "(g())", "[1]", "[1][0]", "(1, 2)", "(1, 2).0", "<-c", "-i", "!b", "i + j", "i == j", "len(a)", "fill(1, 1)", "fill(1, 1)[0]", "make chan of int", "prog() { }", "((a))[0]", "(a[0])"} {
		// The place comes ahead of all else, also of an expression without a type.
		for _, e := range []string{"1", "b", "f()", "p"} {
			wantCode(t, api.ErrCheckPlace, place+" ^= "+e+";")
		}
	}
	wantCode(t, api.ErrCheckNone, "i ^= f();")
	wantCode(t, api.ErrCheckType, "i ^= b;")
	wantCode(t, api.ErrCheckType, "a[0] ^= b;")
	wantCode(t, api.ErrCheckType, "a ^= 1;")
	wantCode(t, api.ErrCheckType, "p.1 ^= 1;")
	// What is wrong inside of a place comes ahead of it.
	wantCode(t, api.ErrCheckKind, "i^[0] = 1;")
	wantCode(t, api.ErrCheckKind, "p^[0] = 1;")
	wantCode(t, api.ErrCheckKind, "a^.0 = 1;")
	wantCode(t, api.ErrCheckMany, "p^.2 = 1;")
	wantCode(t, api.ErrCheckType, "a^[b] = 1;")
	wantCode(t, api.ErrCheckType, "a[1] = 2 ^+ b;")
}

// P6.4: statements of an expression alone, and begin.
func TestDoAndBegin(t *testing.T) {
	for _, x := range sorts {
		if x.typ == 0 {
			wantTaken(t, head+x.expr+";", head+"begin "+x.expr+";")
			continue
		}
		for _, e := range []string{x.expr, "(" + x.expr + ")", "((" + x.expr + "))", "[" + x.expr + "]", "(" + x.expr + ", 1)"} {
			wantCode(t, api.ErrCheckIdle, "^"+e+";")
			wantCode(t, api.ErrCheckBegin, "^begin "+e+";")
		}
	}
	wantTaken(t, head+"<-c; (<-c); ((<-c)); <-make chan of int; g(); (g()); ((f())); prog() { }(); (prog() { })(); begin ((f())); begin (g)(); <-(<-make chan of chan of int);")
	for _, e := range []string{"-i", "!b", "i + 1", "b == b", "len(a)", "fill(1, 1)", "a[0]", "p.0", "(g(), 1)", "[g()]", "g() + 1", "-g()", "1", "true", "make chan of int", "prog() { }", "(<-c, 1)", "<-c + 1", "a[g()]", "prog() { <-input; }"} {
		wantCode(t, api.ErrCheckIdle, "^"+e+";")
		wantCode(t, api.ErrCheckIdle, "^("+e+");")
		wantCode(t, api.ErrCheckBegin, "^begin "+e+";")
		wantCode(t, api.ErrCheckBegin, "^begin ("+e+");")
	}
	wantCode(t, api.ErrCheckBegin, "^begin <-c;")
	wantCode(t, api.ErrCheckBegin, "^begin (<-c);")
}

// P6.4: returns, in the prog to which they belong.
func TestReturns(t *testing.T) {
	wantTaken(t, "return;", "if true { return; }", "{ while true { return; } }",
		"val f = prog() { return; };", "val f = prog(): int { return 1; };",
		"val f = prog(): bool { val g = prog() { return; }; return true; };",
		"val f = prog(): bool { val g = prog(): int { return 1; }; return true; };",
		"val f = prog() { val g = prog(): int { return 1; }; return; };",
		"val f = prog(a: bool): int { return prog(): int { return 2; }(); };",
		"val f = prog(a: bool, b: int): int { if a { return b; } else { return 2; } };")
	wantFault(t, api.ErrCheckReturn, "{ ^return 1; }")
	wantFault(t, api.ErrCheckReturn, "while true { if true { ^return true; } }")
	wantFault(t, api.ErrCheckReturn, "val f = prog() { }; ^return f();")
	wantFault(t, api.ErrCheckReturn, "val f = prog() { ^return 1; };")
	wantFault(t, api.ErrCheckReturn, "val f = prog(a: int) { ^return a; };")
	wantFault(t, api.ErrCheckReturn, "val f = prog(): int { ^return; };")
	wantFault(t, api.ErrCheckReturn, "val f = prog(): int { if true { ^return; } return 1; };")
	wantFault(t, api.ErrCheckReturn, "val f = prog(): bool { val g = prog() { ^return 1; }; return true; };")
	wantFault(t, api.ErrCheckReturn, "val f = prog() { val g = prog(): int { return 1; }; ^return 1; };")
	wantFault(t, api.ErrCheckReturn, "val f = prog(): int { return 1; }; ^return 1;")
	wantFault(t, api.ErrCheckReturn, "select { case <-input { ^return 1; } }")
	// ahead of a type that is missing
	wantFault(t, api.ErrCheckReturn, "val g = prog() { }; val f = prog() { ^return g(); };")
	wantFault(t, api.ErrCheckNone, "val g = prog() { }; val f = prog(): int { ^return g(); };")
	wantFault(t, api.ErrCheckType, "val f = prog(): int { ^return true; };")
	wantFault(t, api.ErrCheckType, "val f = prog(a: int): bool { ^return a; };")
	wantFault(t, api.ErrCheckType, "val f = prog(): bool { val g = prog(): int { ^return true; }; return true; };")
	wantFault(t, api.ErrCheckType, "val f = prog(): prog(): int { return prog(): int { ^return prog(): int { return 1; }; }; };")
}

// P6.5: bodies that end, and such as do not.
func TestEnds(t *testing.T) {
	for _, body := range []string{
		"return 1;", "{ return 1; }", "{ { return 1; } }", "f(); return 1;", "{ } return 1;", "return 1; return 2;", "while true { } return 1;",
		"if b { return 1; } else { return 2; }", "if b { return 1; } else if b { return 2; } else { return 3; }", "if b { { return 1; } } else { f(); return 2; }",
		"if b { select { } } else { return 1; }",
		"select { }", "select { case <-input { return 1; } }", "select { case x = <-input { return x; } case output <-= 1 { return 2; } case <-input { select { } } }",
		"select { case output <-= 1 { if b { return 1; } else { select { } } } }",
		"if b { return 1; } return 2;", "select { case <-input { } } return 1;", "{ } { return 1; }",
	} {
		wantTaken(t, ending(body))
	}
	for _, body := range []string{
		"", "f();", "{ }", "{ { } }", "{ return 1; } f();", "return 1; f();", "return 1; { }", "{ return 1; { } }", "return 1; val x = 1;", "return 1; begin f();",
		"if b { return 1; }", "if b { return 1; } else { }", "if b { } else { return 1; }", "if b { } else { }", "if b { return 1; } else if b { return 2; }", "if b { return 1; } else if b { } else { return 3; }", "if b { return 1; } else if b { return 1; } else { }",
		"while true { return 1; }", "while true { }", "while true { select { } }",
		"select { case <-input { } }", "select { case <-input { return 1; } case <-input { } }", "select { case <-input { } case <-input { return 1; } }", "select { case output <-= 1 { } }", "select { case x = <-input { return x; } case output <-= 1 { f(); } }",
		"select { case <-input { return 1; } case <-input { } case <-input { return 1; } }",
		"select { } f();", "<-input;", "output <-= 1;", "var x: int; x = 1;", "val g = prog(): int { return 1; };", "prog(): int { return 1; }();",
	} {
		wantFault(t, api.ErrCheckMiss, ending("^"+body))
		wantTaken(t, "val f = prog() { }; val b = true; val m = prog() { "+strings.NewReplacer("return 1", "return", "return 2", "return", "return 3", "return", "return x", "return").Replace(strings.ReplaceAll(body, "prog(): int { return 1; }", "f"))+" };")
	}
	// The innermost one that is wrong comes first.
	wantFault(t, api.ErrCheckMiss, "val f = prog(): int { val g = ^prog(): int { }; };")
	wantFault(t, api.ErrCheckMiss, "val f = ^prog(): int { val g = prog(): int { return 1; }; };")
}

// ending is a source whose prog has such a body; the mark, if the body has one, stands ahead of the prog.
func ending(body string) string {
	rest, marked := strings.CutPrefix(body, "^")
	mark := ""
	if marked {
		mark = "^"
	}
	return "val f = prog() { }; val b = true; val m = " + mark + "prog(): int { " + rest + " };"
}

// P6.1: the first node of several, in the order of the list, but that an NRecv comes ahead of its block.
func TestFirstOfSeveral(t *testing.T) {
	wantFault(t, api.ErrCheckType, "1 ^+ true; 1;")
	wantFault(t, api.ErrCheckIdle, "^1; 1 + true;")
	wantFault(t, api.ErrCheckType, "(1 ^+ true) + (2 - false);")
	wantFault(t, api.ErrCheckType, "val x = [1, true ^+ 1, -true];")
	wantFault(t, api.ErrCheckType, "val x = [^-true, 1 + true];")
	// What stands in a block comes ahead of the statement, or the prog, around it.
	wantFault(t, api.ErrCheckIdle, "if 1 { ^1; }")
	wantFault(t, api.ErrCheckType, "if 1 ^+ true { 1; }")
	wantFault(t, api.ErrCheckIdle, "while 1 { ^1; }")
	wantFault(t, api.ErrCheckIdle, "if 1 { } else { ^1; }")
	wantFault(t, api.ErrCheckType, "if 1 { } else ^if 1 { }")
	wantFault(t, api.ErrCheckIdle, "val f = prog(): int { ^1; };")
	wantFault(t, api.ErrCheckType, "val f = prog(a: int): int { ^return true; 1; }(true);")
	wantFault(t, api.ErrCheckMiss, "val f = ^prog(a: int): int { }(true);")
	// A sending arm comes behind its block, a receiving one ahead of it.
	wantFault(t, api.ErrCheckIdle, "select { case 1 <-= 2 { ^1; } }")
	wantFault(t, api.ErrCheckKind, "select { ^case <-1 { 1; } }")
	wantFault(t, api.ErrCheckKind, "select { ^case x = <-1 { x + true; } }")
	wantFault(t, api.ErrCheckNone, "select { ^case x = <-prog() { }() { x + true; } }")
	wantFault(t, api.ErrCheckType, "select { case x = <-(1 ^+ true) { 1; } }")
	wantFault(t, api.ErrCheckIdle, "select { case x = <-input { ^x; } case <-1 { } }")
	wantFault(t, api.ErrCheckIdle, "select { case input <-= 2 { ^1; } case x = <-1 { x; } }")
	wantFault(t, api.ErrCheckKind, "select { ^case 1 <-= 2 { } case x = <-1 { x; } }")
	// A receiving arm in the channel of another one, and in its block.
	inner := "prog(): chan of int { select { ^case x = <-1 { } } }()"
	wantFault(t, api.ErrCheckKind, "select { case y = <-"+inner+" { 1; } }")
	wantFault(t, api.ErrCheckKind, "select { ^case y = <-(1, 2) { val z = "+strings.Replace(inner, "^", "", 1)+"; } }")
	wantFault(t, api.ErrCheckKind, "select { case y = <-input { select { ^case z = <-y { z + true; } } } }")
	wantFault(t, api.ErrCheckType, "select { case y = <-make chan of chan of bool { select { case z = <-y { z ^+ 1; } } } }")
}

// P6.4: of a node the first rule that is broken.
func TestFirstRule(t *testing.T) {
	wantCode(t, api.ErrCheckNone, "val z = f() ^+ true;")
	wantCode(t, api.ErrCheckNone, "val z = true ^+ f();")
	wantCode(t, api.ErrCheckType, "val z = a ^== p;")
	wantCode(t, api.ErrCheckKind, "val z = a ^== a;")
	wantCode(t, api.ErrCheckKind, "val z = p ^!= q;")
	wantCode(t, api.ErrCheckKind, "val z = f ^== f;")
	wantCode(t, api.ErrCheckNone, "val z = ^[1, true, f()];")
	wantCode(t, api.ErrCheckNone, "val z = ^fill(true, f());")
	wantCode(t, api.ErrCheckNone, "val z = i^[f()];")
	wantCode(t, api.ErrCheckKind, "val z = i^[true];")
	wantCode(t, api.ErrCheckNone, "i ^<-= f();")
	wantCode(t, api.ErrCheckKind, "i ^<-= true;")
	wantCode(t, api.ErrCheckNone, "f() ^<-= true;")
	wantCode(t, api.ErrCheckNone, "select { ^case i <-= f() { } }")
	wantCode(t, api.ErrCheckKind, "select { ^case i <-= true { } }")
	wantCode(t, api.ErrCheckNone, "^var z: bool = f();")
}

// P6.1: At is the node's own, whatever stands elsewhere.
func TestPlacesTold(t *testing.T) {
	l := parsed(t, "1 + true;")
	for i := range l {
		l[i].At = 1000 - i
	}
	wantRefused(t, l, api.Fault{At: 998, Code: api.ErrCheckType})
	l[2].At = 0
	wantRefused(t, l, api.Fault{At: 0, Code: api.ErrCheckType})
	right, wrong := "case x = <-input { output <-= x; } ", "case x = <-1 { 1; } "
	for k := range 20 {
		wantFault(t, api.ErrCheckIdle, strings.Repeat("<-input; ", k)+"^1; "+strings.Repeat("input; ", k))
		wantFault(t, api.ErrCheckKind, "select { "+strings.Repeat(right, k)+"^"+wrong+strings.Repeat(wrong, k)+"}")
	}
}
