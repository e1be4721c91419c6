package kinds_test

import (
	"reflect"
	"strconv"
	"strings"
	"testing"

	"squint/api"
	"squint/kinds"
	"squint/parse"
	"squint/tree"
)

var kindNames = map[int]string{
	api.KInt: "int", api.KBool: "bool", api.KArray: "array", api.KTuple: "tuple", api.KChan: "chan", api.KProg: "prog",
}

// told writes rows as their kinds and kids, with a colon ahead of a result.
func told(rows []api.Type) string {
	var out []string
	for _, row := range rows {
		text := kindNames[row.Kind]
		for k, kid := range row.Kids {
			if row.Res && k == len(row.Kids)-1 {
				text += " :"
			}
			text += " " + strconv.Itoa(kid)
		}
		out = append(out, text)
	}
	return strings.Join(out, "; ")
}

// toldOf writes the rows of the type nodes, in the order of the list; all other nodes have none.
func toldOf(t *testing.T, l []api.Node, of []int) string {
	t.Helper()
	if len(of) != len(l) {
		t.Fatalf("%d nodes, %d rows of nodes", len(l), len(of))
	}
	var out []string
	for i, n := range l {
		if n.Kind >= api.TInt && n.Kind <= api.TProg {
			out = append(out, strconv.Itoa(of[i]))
		} else if of[i] != -1 {
			t.Errorf("node %d is no type, and has row %d", i, of[i])
		}
	}
	return strings.Join(out, " ")
}

func parsed(t *testing.T, src string) []api.Node {
	t.Helper()
	l, f := parse.Parse([]byte(src), api.MaxNest)
	if f != (api.Fault{}) {
		t.Fatalf("%q: %v", src, f)
	}
	return l
}

func wantTable(t *testing.T, src, rows, of string) {
	t.Helper()
	l := parsed(t, src)
	gotRows, gotOf, f := kinds.Table(l)
	if f != (api.Fault{}) {
		t.Errorf("%q: %v", src, f)
		return
	}
	if got := told(gotRows); got != rows {
		t.Errorf("%q: rows %q, not %q", src, got, rows)
	}
	if got := toldOf(t, l, gotOf); got != of {
		t.Errorf("%q: of the nodes %q, not %q", src, got, of)
	}
}

// wantFault: the mark `^` stands ahead of the place at which a source is refused.
func wantFault(t *testing.T, code api.Errno, marked string) {
	t.Helper()
	at := strings.Index(marked, "^")
	src := marked[:at] + marked[at+1:]
	wantRefused(t, parsed(t, src), api.Fault{At: at, Code: code})
}

func wantRefused(t *testing.T, l []api.Node, want api.Fault) {
	t.Helper()
	rows, of, f := kinds.Table(l)
	if f != want || len(rows) != 0 || len(of) != 0 {
		text, _ := tree.Print(l)
		t.Errorf("%q: %v, %v, %v, not %v", text, rows, of, f, want)
	}
}

// The chapter's examples.
func TestExamples(t *testing.T) {
	wantTable(t, "type T = chan of T;", "chan 0", "0 0")
	wantTable(t, "type T = chan of T; type U = chan of chan of U;", "chan 0; chan 2; chan 1", "0 0 2 1 2")
	wantTable(t, "type A = B; type B = (int, array of A);", "int; array 2; tuple 0 1", "2 0 2 1 2")
	wantFault(t, api.ErrKindTwice, "type A = int; ^type A = bool;")
	wantFault(t, api.ErrKindName, "var x: ^T;")
	wantFault(t, api.ErrKindOpen, "type A = (int, B); ^type B = B;")
	wantFault(t, api.ErrKindOpen, "^type A = (int, A);")
	wantTable(t, "type A = prog(A): A;", "prog 0 : 0", "0 0 0")

	l := parsed(t, "type T = chan of T;")
	if _, of, _ := kinds.Table(l); !reflect.DeepEqual(of, []int{0, 0, -1, -1}) {
		t.Errorf("of the nodes of a chan of itself: %v", of)
	}
}

// P4.1: each kind of type node.
func TestRowsOfTypes(t *testing.T) {
	for _, x := range []struct{ typ, rows, of string }{
		{"int", "int", "0"}, {"bool", "bool", "0"},
		{"array of int", "int; array 0", "0 1"}, {"chan of bool", "bool; chan 0", "0 1"},
		{"(int, int)", "int; int; tuple 0 1", "0 1 2"}, {"(int, bool, int)", "int; bool; int; tuple 0 1 2", "0 1 2 3"},
		{"(bool, (int, array of int))", "bool; int; int; array 2; tuple 1 3; tuple 0 4", "0 1 2 3 4 5"},
		{"prog()", "prog", "0"}, {"prog(int)", "int; prog 0", "0 1"}, {"prog(): int", "int; prog : 0", "0 1"},
		{"prog(int, bool)", "int; bool; prog 0 1", "0 1 2"}, {"prog(int): bool", "int; bool; prog 0 : 1", "0 1 2"},
		{"prog(prog(): int, prog()): prog()", "int; prog : 0; prog; prog; prog 1 2 : 3", "0 1 2 3 4"},
	} {
		wantTable(t, "var x: "+x.typ+";", x.rows, x.of)
		wantTable(t, "type T = "+x.typ+";", x.rows, x.of)
	}
	wantTable(t, "", "", "")
	wantTable(t, "val x = 1;", "", "")
}

// P4.1: a type node has a row wherever in a program it stands.
func TestPlaces(t *testing.T) {
	wantTable(t, "type T = int; var x: T = 1; var y: (T, bool);", "int; bool; tuple 0 1", "0 0 0 1 2")
	wantTable(t, "type T = bool; val c = make chan of T;", "bool; chan 0", "0 0 1")
	wantTable(t, "type T = bool; val f = prog g(a: T, b: array of T): prog(T) { };", "bool; array 0; prog 0", "0 0 0 1 0 2")
	wantTable(t, "type U = chan of U; prog() { if x { var y: U; } else { while z { begin prog(a: int): U { }(); } } }();", "chan 0; int", "0 0 0 1 0")
	wantTable(t, "type U = int; select { case <-c { var y: U; } case x = <-c { val z = [make chan of U]; } case c <-= len(prog(a: U) { }) { { var w: bool; } } }",
		"int; chan 0; bool", "0 0 0 1 0 2")
	wantTable(t, "type U = int; output <-= fill(-f(prog(a: U) { }), t[prog(a: U) { }].0 + (prog(): U { }, 1).1);", "int", "0 0 0 0")
}

// P4.1: what a name means, also by way of other names; types' names and values' names do not meet.
func TestNames(t *testing.T) {
	wantTable(t, "type A = B; type B = C; type C = D; type D = int; var x: A; var y: C;", "int", "0 0 0 0 0 0")
	wantTable(t, "type D = bool; type C = D; type B = C; type A = B; var x: A;", "bool", "0 0 0 0 0")
	wantTable(t, "type A = int; type a = bool; type _ = A; type A1 = a; var x: _; var y: A1;", "int; bool", "0 1 0 1 0 1")
	wantTable(t, "type x = int; val x = prog x(x: x): x { var y: x = x; };", "int", "0 0 0 0")
	wantTable(t, "type input = chan of output; type output = array of input; var x: input;", "chan 1; array 0", "1 0 0 1 0")
	wantTable(t, "type A = (B, C); type B = (C, C); type C = array of A; type D = A;", "tuple 1 2; tuple 2 2; array 0", "1 2 0 2 2 1 0 2 0")
	long := strings.Repeat("n", api.MaxName-1)
	wantTable(t, "type "+long+"1 = int; type "+long+"2 = bool; var x: "+long+"2;", "int; bool", "0 1 1")
	wantFault(t, api.ErrKindName, "type "+long+"1 = int; var x: ^"+long+"2;")
}

func TestTwice(t *testing.T) {
	wantFault(t, api.ErrKindTwice, "type A = int; type B = int; ^type B = int; type A = int;")
	wantFault(t, api.ErrKindTwice, "type A = int; type B = int; ^type A = int; type B = int; type A = int;")
	wantFault(t, api.ErrKindTwice, "type A = A; ^type A = A;")
	// Ahead of what else is wrong, wherever that stands.
	wantFault(t, api.ErrKindTwice, "type A = U; type B = B; type C = int; ^type C = V;")
}

func TestUnknown(t *testing.T) {
	wantFault(t, api.ErrKindName, "type A = ^B;")
	wantFault(t, api.ErrKindName, "type A = (int, prog(array of ^U, V): W);")
	wantFault(t, api.ErrKindName, "type A = int; val f = prog A(A: A, b: ^b) { };")
	wantFault(t, api.ErrKindName, "val input = make chan of chan of ^input;")
	wantFault(t, api.ErrKindName, "type A = int; var x: A; { var y: ^a; var z: b; }")
	// Ahead of what comes back to itself; first in the list is the deeper one.
	wantFault(t, api.ErrKindName, "type A = A; type B = (B, A); val f = prog(): prog(^D): C { };")
}

func TestOpen(t *testing.T) {
	wantFault(t, api.ErrKindOpen, "^type A = A;")
	wantFault(t, api.ErrKindOpen, "^type A = B; type B = A;")
	wantFault(t, api.ErrKindOpen, "type A = int; ^type B = C; type C = D; type D = B;")
	wantFault(t, api.ErrKindOpen, "^type A = (int, (bool, (A, int)));")
	wantFault(t, api.ErrKindOpen, "^type A = (B, int); type B = (int, C); type C = A;")
	wantFault(t, api.ErrKindOpen, "^type A = (array of A, A);")
	wantFault(t, api.ErrKindOpen, "^type A = (B, B); type B = (array of int, A);")
	// Those that lead to what comes back, and those to which it leads, do not come back themselves.
	wantFault(t, api.ErrKindOpen, "type A = B; type B = (A1, C); type A1 = C; ^type C = D; type D = (C, E); type E = (int, int);")
	wantFault(t, api.ErrKindOpen, "type E = int; type X = (Y, E); ^type Y = (E, Z); type Z = (Z, Y);")
	// The one between two that come back; the later of them is found by way of the first declaration.
	wantFault(t, api.ErrKindOpen, "type A = (D, B); ^type B = (C, B); type C = D; type D = D;")
	wantFault(t, api.ErrKindOpen, "type M = Y; ^type X = (X, M); type Y = Y;")
	wantFault(t, api.ErrKindOpen, "type A = D; ^type B = C; type C = (D, B); type D = D; var x: A;")
	wantFault(t, api.ErrKindOpen, "type A = (P, Q); ^type P = (Q, A1); type Q = (int, R); type R = P; type A1 = int;")
}

// Between a name and itself an array, a chan or a prog is enough, at any depth.
func TestNotOpen(t *testing.T) {
	wantTable(t, "type A = array of A;", "array 0", "0 0")
	wantTable(t, "type A = (int, chan of A);", "int; chan 2; tuple 0 1", "0 2 1 2")
	wantTable(t, "type A = chan of (A, A);", "tuple 1 1; chan 0", "1 1 0 1")
	wantTable(t, "type A = (B, B); type B = prog(A);", "tuple 1 1; prog 0", "1 1 0 0 1")
	wantTable(t, "type A = (B, B); type B = prog(): A;", "tuple 1 1; prog : 0", "1 1 0 0 1")
	wantTable(t, "type A = B; type B = C; type C = array of (A, B, C);", "tuple 1 1 1; array 0", "1 1 1 1 1 0 1")
	// One name twice in one type, and one that is come to by two ways, is no coming back.
	wantTable(t, "type A = (B, B); type B = (C, C); type C = int; type D = (A, B, C);",
		"tuple 1 1; tuple 2 2; int; tuple 0 1 2", "1 1 0 2 2 1 2 0 1 2 3")
}

// A fault's At is the node's own, which need not be what a source would give; R8's is a node's number.
func TestAt(t *testing.T) {
	l := parsed(t, "type A = B; type B = A; type C = int;")
	for i := range l {
		l[i].At = 1000 - 7*i
	}
	wantRefused(t, l, api.Fault{At: l[1].At, Code: api.ErrKindOpen})
	l[2].Name = "D"
	wantRefused(t, l, api.Fault{At: l[2].At, Code: api.ErrKindName})
	l[5].Name = "A"
	wantRefused(t, l, api.Fault{At: l[5].At, Code: api.ErrKindTwice})
	l[6].Kids, l[6].Num = nil, 0
	wantRefused(t, l, api.Fault{At: 7, Code: api.ErrTreeRoot})
	l[4].At = -1
	wantRefused(t, l, api.Fault{At: 4, Code: api.ErrTreeNode})
	l[3].Kids[0] = 3
	wantRefused(t, l, api.Fault{At: 3, Code: api.ErrTreeKids})
	wantRefused(t, nil, api.Fault{At: 0, Code: api.ErrTreeRoot})
	wantRefused(t, []api.Node{{Kind: api.TName, Name: "T"}}, api.Fault{At: 1, Code: api.ErrTreeRoot})
}
