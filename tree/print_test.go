package tree_test

import (
	"math"
	"strings"
	"testing"

	"squint/api"
	"squint/tree"
)

func TestPrintTypes(t *testing.T) {
	i, b := grow(api.TInt, "", 0), grow(api.TBool, "", 0)
	for _, x := range []struct {
		p    *plant
		want string
	}{
		{i, "int"}, {b, "bool"}, {grow(api.TName, "T", 0), "T"},
		{grow(api.TArray, "", 0, i), "array of int"}, {grow(api.TChan, "", 0, b), "chan of bool"},
		{grow(api.TChan, "", 0, grow(api.TArray, "", 0, grow(api.TName, "_x", 0))), "chan of array of _x"},
		{grow(api.TTuple, "", 0, i, b), "( int , bool )"}, {grow(api.TTuple, "", 0, i, b, i), "( int , bool , int )"},
		{grow(api.TProg, "", 0), "prog ( )"}, {grow(api.TProg, "", 1, i), "prog ( ) : int"},
		{grow(api.TProg, "", 0, i), "prog ( int )"}, {grow(api.TProg, "", 0, i, b), "prog ( int , bool )"},
		{grow(api.TProg, "", 1, i, b), "prog ( int ) : bool"}, {grow(api.TProg, "", 1, i, b, i), "prog ( int , bool ) : int"},
		{grow(api.TProg, "", 1, grow(api.TProg, "", 1, i)), "prog ( ) : prog ( ) : int"},
		{grow(api.TProg, "", 1, grow(api.TProg, "", 0), i), "prog ( prog ( ) ) : int"},
	} {
		wantPrint(t, grow(api.SVar, "v", 0, x.p), "var v : "+x.want+" ;")
		root := grow(api.NProgram, "", 1, grow(api.NType, "N", 0, x.p))
		if s, e := tree.Print(root.list()); s != "type N = "+x.want+" ;" || e != api.OK {
			t.Errorf("%q, %d", s, e)
		}
	}
}

// wantPrint holds what Print tells of a program of one statement against a text.
func wantPrint(t *testing.T, statement *plant, want string) {
	t.Helper()
	if s, e := tree.Print(program(statement).list()); s != want || e != api.OK {
		t.Errorf("%q, %d, not %q", s, e, want)
	}
}

func TestPrintExpressions(t *testing.T) {
	a, b, c := nameOf("a"), nameOf("b"), nameOf("c")
	i, y := grow(api.TInt, "", 0), grow(api.TBool, "", 0)
	param := func(name string, p *plant) *plant { return grow(api.NParam, name, 0, p) }
	for _, x := range []struct {
		p    *plant
		want string
	}{
		{number(0), "0"}, {number(10), "10"}, {number(math.MaxInt), "9223372036854775807"},
		{grow(api.EBool, "", 0), "false"}, {grow(api.EBool, "", 1), "true"}, {nameOf("input"), "input"},
		{paren(a), "( a )"}, {paren(paren(a)), "( ( a ) )"},
		{grow(api.ETuple, "", 0, a, b), "( a , b )"}, {grow(api.ETuple, "", 0, a, b, c), "( a , b , c )"},
		{grow(api.EArray, "", 0, a), "[ a ]"}, {grow(api.EArray, "", 0, a, b), "[ a , b ]"},
		{grow(api.EFill, "", 0, a, b), "fill ( a , b )"}, {grow(api.ELen, "", 0, a), "len ( a )"},
		{grow(api.EMake, "", 0, grow(api.TChan, "", 0, i)), "make chan of int"},
		{grow(api.EProg, "", 0, block()), "prog ( ) { }"}, {grow(api.EProg, "f", 0, block()), "prog f ( ) { }"},
		{grow(api.EProg, "", 1, i, block()), "prog ( ) : int { }"},
		{grow(api.EProg, "f", 1, param("p", y), i, block()), "prog f ( p : bool ) : int { }"},
		{grow(api.EProg, "", 0, param("p", y), param("q", i), block(do(a))), "prog ( p : bool , q : int ) { a ; }"},
		{unary(api.OpNeg, a), "- a"}, {unary(api.OpNot, a), "! a"}, {unary(api.OpRecv, a), "<- a"},
		{unary(api.OpNeg, unary(api.OpNeg, a)), "- - a"},
		{bin(api.OpOr, a, b), "a || b"}, {bin(api.OpAnd, a, b), "a && b"}, {bin(api.OpEq, a, b), "a == b"},
		{bin(api.OpNe, a, b), "a != b"}, {bin(api.OpLt, a, b), "a < b"}, {bin(api.OpLe, a, b), "a <= b"},
		{bin(api.OpGt, a, b), "a > b"}, {bin(api.OpGe, a, b), "a >= b"}, {bin(api.OpAdd, a, b), "a + b"},
		{bin(api.OpSub, a, b), "a - b"}, {bin(api.OpMul, a, b), "a * b"}, {bin(api.OpDiv, a, b), "a / b"},
		{bin(api.OpMod, a, b), "a % b"}, {bin(api.OpLt, a, unary(api.OpNeg, b)), "a < - b"},
		{call(a), "a ( )"}, {call(a, b), "a ( b )"}, {call(a, b, c), "a ( b , c )"}, {call(call(a), b), "a ( ) ( b )"},
		{grow(api.EIndex, "", 0, a, b), "a [ b ]"},
		{grow(api.EField, "", 0, a), "a . 0"}, {grow(api.EField, "", math.MaxInt, number(1)), "1 . 9223372036854775807"},
	} {
		wantPrint(t, do(x.p), x.want+" ;")
	}
}

func TestPrintStatements(t *testing.T) {
	a, b := nameOf("a"), nameOf("b")
	recv := func(name string) *plant { return grow(api.NRecv, name, 0, unary(api.OpRecv, a), block(do(b))) }
	send := grow(api.NSend, "", 0, a, b, block())
	branch := func(kids ...*plant) *plant { return grow(api.SIf, "", 0, kids...) }
	for _, x := range []struct {
		p    *plant
		want string
	}{
		{grow(api.SVal, "x", 0, a), "val x = a ;"}, {grow(api.SVar, "x", 0, lettered('T')), "var x : int ;"},
		{grow(api.SVar, "x", 0, lettered('C'), a), "var x : chan of int = a ;"},
		{grow(api.SSet, "", 0, a, b), "a = b ;"}, {grow(api.SSend, "", 0, a, b), "a <-= b ;"}, {do(a), "a ;"},
		{branch(a, block()), "if a { }"}, {branch(a, block(), block(do(b))), "if a { } else { b ; }"},
		{branch(a, block(), branch(b, block())), "if a { } else if b { }"},
		{branch(a, block(), branch(b, block(), block())), "if a { } else if b { } else { }"},
		{branch(a, block(branch(b, block())), block()), "if a { if b { } } else { }"},
		{grow(api.SWhile, "", 0, a, block(do(b), do(a))), "while a { b ; a ; }"},
		{grow(api.SReturn, "", 0), "return ;"}, {grow(api.SReturn, "", 0, a), "return a ;"}, {grow(api.SBegin, "", 0, call(a)), "begin a ( ) ;"},
		{grow(api.SSelect, "", 0), "select { }"}, {grow(api.SSelect, "", 0, recv("")), "select { case <- <- a { b ; } }"},
		{grow(api.SSelect, "", 0, recv("x"), send), "select { case x = <- <- a { b ; } case a <-= b { } }"},
		{block(), "{ }"}, {block(block(), do(a)), "{ { } a ; }"},
	} {
		wantPrint(t, x.p, x.want)
	}
}

func TestPrintProgram(t *testing.T) {
	kid := lettered('T')
	root := grow(api.NProgram, "", 2, grow(api.NType, "A", 0, kid), grow(api.NType, "B", 0, grow(api.TName, "A", 0)), do(nameOf("x")), block())
	l := root.list()
	want := "type A = int ; type B = A ; x ; { }"
	if s, e := tree.Print(l); s != want || e != api.OK {
		t.Errorf("%q, %d", s, e)
	}
	for i := range l {
		l[i].At = 7 * (len(l) - i)
	}
	if s, _ := tree.Print(l); s != want {
		t.Errorf("At is looked at: %q", s)
	}
	if s, e := tree.Print(program().list()); s != "" || e != api.OK {
		t.Errorf("%q, %d", s, e)
	}
	if s, e := tree.Print(l[:len(l)-1]); s != "" || e != api.ErrTreeRoot {
		t.Errorf("%q, %d", s, e)
	}
}

// So many parts may be nested in one another, and more than a source has bytes may be told.
func TestPrintDeep(t *testing.T) {
	const deep = 65536
	for i, wrap := range []func(*plant) *plant{
		paren, func(p *plant) *plant { return unary(api.OpNeg, p) }, func(p *plant) *plant { return bin(api.OpAdd, p, number(1)) },
		func(p *plant) *plant { return call(p) }, func(p *plant) *plant { return grow(api.EField, "", 0, p) },
	} {
		p := nameOf("x")
		for range deep {
			p = wrap(p)
		}
		l := program(do(p)).list()
		s, e := tree.Print(l)
		if e != api.OK || len(strings.Fields(s)) < deep {
			t.Errorf("wrap %d: %d bytes, %d", i, len(s), e)
		}
		if h := tree.Height(l); h[len(h)-1] != deep+3 {
			t.Errorf("wrap %d: height %d", i, h[len(h)-1])
		}
	}
}
