package parse_test

import (
	"reflect"
	"strconv"
	"strings"
	"testing"

	"squint/api"
	"squint/parse"
	"squint/tree"
)

var kindNames = map[int]string{
	api.TInt: "TInt", api.TBool: "TBool", api.TName: "TName", api.TArray: "TArray", api.TTuple: "TTuple", api.TChan: "TChan", api.TProg: "TProg",
	api.EInt: "EInt", api.EBool: "EBool", api.EName: "EName", api.EParen: "EParen", api.ETuple: "ETuple", api.EArray: "EArray",
	api.EFill: "EFill", api.ELen: "ELen", api.EMake: "EMake", api.EProg: "EProg", api.EUnary: "EUnary", api.EBin: "EBin",
	api.ECall: "ECall", api.EIndex: "EIndex", api.EField: "EField",
	api.SVal: "SVal", api.SVar: "SVar", api.SSet: "SSet", api.SSend: "SSend", api.SDo: "SDo", api.SIf: "SIf", api.SWhile: "SWhile",
	api.SReturn: "SReturn", api.SBegin: "SBegin", api.SSelect: "SSelect", api.SBlock: "SBlock",
	api.NParam: "NParam", api.NRecv: "NRecv", api.NSend: "NSend", api.NType: "NType", api.NProgram: "NProgram",
}

// told writes a node, with its place, its name and its number (if it is not 0), and its kids in parentheses.
func told(l []api.Node, k int) string {
	n := l[k]
	out := kindNames[n.Kind] + "@" + strconv.Itoa(n.At)
	if n.Name != "" {
		out += " " + n.Name
	}
	if n.Num != 0 {
		out += " " + strconv.Itoa(n.Num)
	}
	if len(n.Kids) == 0 {
		return out
	}
	var kids []string
	for _, kid := range n.Kids {
		kids = append(kids, told(l, kid))
	}
	return out + "(" + strings.Join(kids, ", ") + ")"
}

func wantTold(t *testing.T, src, want string) {
	t.Helper()
	l, f := parse.Parse([]byte(src), 100)
	if f != (api.Fault{}) {
		t.Errorf("%q: %v", src, f)
		return
	}
	if at, code := tree.Check(l); code != api.OK {
		t.Errorf("%q: Check: %d, %d", src, at, code)
	}
	if got := told(l, len(l)-1); got != want {
		t.Errorf("%q:\n%s, not\n%s", src, got, want)
	}
}

// wantFault: the mark `^` stands ahead of the token at which a source is refused.
func wantFault(t *testing.T, marked string) {
	t.Helper()
	at := strings.Index(marked, "^")
	src := marked[:at] + marked[at+1:]
	l, f := parse.Parse([]byte(src), 100)
	if want := (api.Fault{At: at, Code: api.ErrParseWant}); f != want || len(l) != 0 {
		t.Errorf("%q: %v, %v, not %v", src, l, f, want)
	}
}

// The chapter's examples.
func TestExamples(t *testing.T) {
	want := []api.Node{
		{Kind: api.EInt, At: 8, Num: 1}, {Kind: api.EInt, At: 12, Num: 2},
		{Kind: api.EBin, At: 10, Kids: []int{0, 1}, Num: api.OpSub},
		{Kind: api.EInt, At: 16, Num: 3},
		{Kind: api.EBin, At: 14, Kids: []int{2, 3}, Num: api.OpSub},
		{Kind: api.SVal, At: 0, Kids: []int{4}, Name: "x"},
		{Kind: api.NProgram, At: 0, Kids: []int{5}},
	}
	if l, f := parse.Parse([]byte("val x = 1 - 2 - 3;"), 9); f != (api.Fault{}) || !reflect.DeepEqual(l, want) {
		t.Errorf("%v, %v", l, f)
	}
	wantTold(t, "", "NProgram@0")
	wantTold(t, "if x { } else if y { }", "NProgram@0(SIf@0(EName@3 x, SBlock@5, SIf@14(EName@17 y, SBlock@19)))")
	wantTold(t, "select { case (x) <-= 1 { } case <-c { } case y = <-c { } }",
		"NProgram@0(SSelect@0(NSend@9(EParen@14(EName@15 x), EInt@22 1, SBlock@24), NRecv@28(EName@35 c, SBlock@37), NRecv@41 y(EName@52 c, SBlock@54)))")
	wantTold(t, "val f = prog g(a: prog(int): int): bool { return true; };",
		"NProgram@0(SVal@0 f(EProg@8 g 1(NParam@15 a(TProg@18 1(TInt@23, TInt@29)), TBool@35, SBlock@40(SReturn@42(EBool@49 1)))))")
	for _, marked := range []string{
		"1 + ^;", "1 +^", "a < b ^< c;", "select { case x = ^1 { } }", "type T = int; 5; ^type U = int;", "x ^<- 1;",
	} {
		wantFault(t, marked)
	}
	for _, x := range []struct {
		src  string
		nest int
		want api.Fault
	}{
		{"", 0, api.Fault{At: 0, Code: api.ErrParseDeep}},
		{"val x = 1 - 2 - 3;", 4, api.Fault{At: 0, Code: api.ErrParseDeep}},
		{"$", 9, api.Fault{At: 0, Code: api.ErrScanByte}},
	} {
		if l, f := parse.Parse([]byte(x.src), x.nest); f != x.want || len(l) != 0 {
			t.Errorf("%q, %d: %v, %v", x.src, x.nest, l, f)
		}
	}
	if _, f := parse.Parse(nil, 1); f != (api.Fault{}) {
		t.Errorf("nothing, 1: %v", f)
	}
}

func TestTypes(t *testing.T) {
	for _, x := range []struct{ typ, want string }{
		{"int", "TInt@9"}, {"bool", "TBool@9"}, {"T", "TName@9 T"},
		{"array of int", "TArray@9(TInt@18)"}, {"chan of chan of T", "TChan@9(TChan@17(TName@25 T))"},
		{"(int, bool)", "TTuple@9(TInt@10, TBool@15)"}, {"(int, (T, T), U)", "TTuple@9(TInt@10, TTuple@15(TName@16 T, TName@19 T), TName@23 U)"},
		{"prog()", "TProg@9"}, {"prog(int)", "TProg@9(TInt@14)"}, {"prog(int, T)", "TProg@9(TInt@14, TName@19 T)"},
		{"prog(): int", "TProg@9 1(TInt@17)"}, {"prog(int, T): bool", "TProg@9 1(TInt@14, TName@19 T, TBool@23)"},
		{"prog(): prog(): int", "TProg@9 1(TProg@17 1(TInt@25))"},
		{"array of prog(): int", "TArray@9(TProg@18 1(TInt@26))"},
		{"prog(prog(): int, prog()): prog()", "TProg@9 1(TProg@14 1(TInt@22), TProg@27, TProg@36)"},
	} {
		wantTold(t, "type T = "+x.typ+";", "NProgram@0 1(NType@0 T("+x.want+"))")
	}
	wantTold(t, "type A = int; type B = A; x;", "NProgram@0 2(NType@0 A(TInt@9), NType@14 B(TName@23 A), SDo@26(EName@26 x))")
	for _, marked := range []string{
		"^", "^;", "^)", "^of", "^3", "^-", "^fill", "^make", "^{", "x^(", "array ^int", "array of^", "array of ^of", "chan ^(int, int)", "chan of ^[",
		"(^)", "(int^)", "(int ^int)", "(int, ^)", "(int, int,^)", "(int, int^;", "(int, int^", "(int, bool)^: int",
		"int ^int", "int ^of int", "int ^: int", "array of int ^: int",
		"prog ^int", "prog ^:", "prog ^f()", "prog(^,", "prog(int^;", "prog(int,^)", "prog(x^: int)", "prog() ^int", "prog()^(", "prog():^;",
		"prog(): int ^: int", "prog(): prog(): int ^: int",
	} {
		wantFault(t, "var x: "+marked)
	}
}

func TestExpressions(t *testing.T) {
	for _, x := range []struct{ expr, want string }{
		{"0", "EInt@0"}, {"9223372036854775807", "EInt@0 9223372036854775807"}, {"true", "EBool@0 1"}, {"false", "EBool@0"}, {"x", "EName@0 x"},
		{"(x)", "EParen@0(EName@1 x)"}, {"((x))", "EParen@0(EParen@1(EName@2 x))"},
		{"(x, 1)", "ETuple@0(EName@1 x, EInt@4 1)"}, {"(1, (2), (3, 4))", "ETuple@0(EInt@1 1, EParen@4(EInt@5 2), ETuple@9(EInt@10 3, EInt@13 4))"},
		{"[x]", "EArray@0(EName@1 x)"}, {"[1, [2], 3]", "EArray@0(EInt@1 1, EArray@4(EInt@5 2), EInt@9 3)"},
		{"fill(1, x)", "EFill@0(EInt@5 1, EName@8 x)"}, {"len(x)", "ELen@0(EName@4 x)"},
		{"make chan of int", "EMake@0(TChan@5(TInt@13))"}, {"make chan of prog(): int", "EMake@0(TChan@5(TProg@13 1(TInt@21)))"},
		{"prog() { }", "EProg@0(SBlock@7)"}, {"prog f(): int { }", "EProg@0 f 1(TInt@10, SBlock@14)"},
		{"prog(a: int, b: T) { a; }", "EProg@0(NParam@5 a(TInt@8), NParam@13 b(TName@16 T), SBlock@19(SDo@21(EName@21 a)))"},
		{"prog(): prog(): int { }", "EProg@0 1(TProg@8 1(TInt@16), SBlock@20)"},
		{"-x", "EUnary@0 1(EName@1 x)"}, {"!x", "EUnary@0 2(EName@1 x)"}, {"<-x", "EUnary@0 3(EName@2 x)"},
		{"-!<-x", "EUnary@0 1(EUnary@1 2(EUnary@2 3(EName@4 x)))"}, {"<- - <-x", "EUnary@0 3(EUnary@3 1(EUnary@5 3(EName@7 x)))"},
		{"-a.0", "EUnary@0 1(EField@2(EName@1 a))"}, {"<-c[1]", "EUnary@0 3(EIndex@3(EName@2 c, EInt@4 1))"}, {"!f()", "EUnary@0 2(ECall@2(EName@1 f))"},
		{"(-a).2", "EField@4 2(EParen@0(EUnary@1 1(EName@2 a)))"},
		{"f()", "ECall@1(EName@0 f)"}, {"f(1)", "ECall@1(EName@0 f, EInt@2 1)"}, {"f(1, 2, 3)", "ECall@1(EName@0 f, EInt@2 1, EInt@5 2, EInt@8 3)"},
		{"f()[1].2(3)", "ECall@8(EField@6 2(EIndex@3(ECall@1(EName@0 f), EInt@4 1)), EInt@9 3)"}, {"t.0.1", "EField@3 1(EField@1(EName@0 t))"},
		{"prog() { }()", "ECall@10(EProg@0(SBlock@7))"}, {"[1][0]", "EIndex@3(EArray@0(EInt@1 1), EInt@4)"}, {"1(2)", "ECall@1(EInt@0 1, EInt@2 2)"},
		{"make chan of T(1)", "ECall@14(EMake@0(TChan@5(TName@13 T)), EInt@15 1)"},
		{"make chan of prog(int)(1)", "ECall@22(EMake@0(TChan@5(TProg@13(TInt@18))), EInt@23 1)"},
		{"fill(1, 2)[0]", "EIndex@10(EFill@0(EInt@5 1, EInt@8 2), EInt@11)"}, {"true.0", "EField@4(EBool@0 1)"},
	} {
		wantTold(t, x.expr+";", "NProgram@0(SDo@0("+x.want+"))")
	}
	for _, marked := range []string{
		"(^)", "(1^;", "(1,^)", "(1, 2^]", "[^]", "[1^)", "[1,^]", "[1^", "fill^;", "fill ^x", "fill(^)", "fill(1^)", "fill(1,^)", "fill(1, 2^, 3)", "fill(1, 2^",
		"len ^x", "len(^)", "len(1^, 2)", "len^", "make ^int", "make ^x", "make chan ^int", "make chan of^;", "make^", "make ^array of int",
		"prog ^{ }", "prog f^{ }", "prog f ^g()", "prog(^1)", "prog(^int)", "prog(a^)", "prog(a:^)", "prog(a: ^1)", "prog(a: int^;", "prog(a: int,^)", "prog(a: int, ^int)",
		"prog()^;", "prog() ^x", "prog():^{ }", "prog(): int^;", "prog(): int ^: int { }", "prog() {^", "prog() { ^)", "prog(): int { }^: int",
		"-^;", "-^)", "!^", "<-^;", "--^+", "f(^,", "f(1^;", "f(1,^)", "f(1 ^2)", "f(^", "a[^]", "a[1^;", "a[1^, 2]", "a[1^", "t.^x", "t.^;", "t.^", "t.^(0)", "t.^-1",
		"1 ^2", "x ^y", "x ^1", "x ^{", "x ^true", "x ^!y", "x ^of", "x ^:", "x ^,", "x^)", "x^]", "x^}", "1^", "(1)^", "f()^", "^of", "^int", "^chan", "^case", "^else",
	} {
		wantFault(t, marked)
	}
}

// P3.2: operators of one line are read from the left, those of a later line first; comparisons do not follow one another.
func TestOperators(t *testing.T) {
	lines := [][]string{{"||"}, {"&&"}, {"==", "!=", "<", "<=", ">", ">="}, {"+", "-"}, {"*", "/", "%"}}
	numbers := map[string]int{
		"||": api.OpOr, "&&": api.OpAnd, "==": api.OpEq, "!=": api.OpNe, "<": api.OpLt, "<=": api.OpLe, ">": api.OpGt, ">=": api.OpGe,
		"+": api.OpAdd, "-": api.OpSub, "*": api.OpMul, "/": api.OpDiv, "%": api.OpMod,
	}
	bin := func(op string, at int) string { return "EBin@" + strconv.Itoa(at) + " " + strconv.Itoa(numbers[op]) }
	for i, first := range lines {
		for j, second := range lines {
			for _, p := range first {
				for _, q := range second {
					src := "a " + p + " b " + q + " c;"
					left, right := 2, 5+len(p)
					b, c := "EName@"+strconv.Itoa(3+len(p))+" b", "EName@"+strconv.Itoa(6+len(p)+len(q))+" c"
					if i == 2 && j == 2 {
						wantFault(t, src[:right]+"^"+src[right:])
					} else if i < j {
						wantTold(t, src, "NProgram@0(SDo@0("+bin(p, left)+"(EName@0 a, "+bin(q, right)+"("+b+", "+c+"))))")
					} else {
						wantTold(t, src, "NProgram@0(SDo@0("+bin(q, right)+"("+bin(p, left)+"(EName@0 a, "+b+"), "+c+")))")
					}
				}
			}
		}
	}
	for op := range numbers {
		wantFault(t, "a "+op+" ^;")
		wantFault(t, "a "+op+"^")
		if op != "-" {
			wantFault(t, "^"+op+" a;")
			wantFault(t, "a + ^"+op+" b;")
		}
	}
	for _, marked := range []string{
		"a && b < c ^< d;", "a < b + c ^== d;", "a + b > c * d ^!= e && f;", "a == b || c <= d ^>= e;", "a = b < c ^> d;", "a && b == c ^== d && e;",
	} {
		wantFault(t, marked)
	}
	wantTold(t, "a < b && c < d || e;", "NProgram@0(SDo@0(EBin@15 11(EBin@6 12(EBin@2 23(EName@0 a, EName@4 b), EBin@11 23(EName@9 c, EName@13 d)), EName@18 e)))")
	wantTold(t, "(a < b) < c;", "NProgram@0(SDo@0(EBin@8 23(EParen@0(EBin@3 23(EName@1 a, EName@5 b)), EName@10 c)))")
	wantTold(t, "-a * -b;", "NProgram@0(SDo@0(EBin@3 41(EUnary@0 1(EName@1 a), EUnary@5 1(EName@6 b))))")
	wantTold(t, "a - -b - c;", "NProgram@0(SDo@0(EBin@7 32(EBin@2 32(EName@0 a, EUnary@4 1(EName@5 b)), EName@9 c)))")
}

func TestStatements(t *testing.T) {
	for _, x := range []struct{ src, want string }{
		{"val x = 1;", "SVal@0 x(EInt@8 1)"}, {"var x: int;", "SVar@0 x(TInt@7)"}, {"var x: int = 1;", "SVar@0 x(TInt@7, EInt@13 1)"},
		{"if x { }", "SIf@0(EName@3 x, SBlock@5)"}, {"if x { } else { y; }", "SIf@0(EName@3 x, SBlock@5, SBlock@14(SDo@16(EName@16 y)))"},
		{"if x { } else if y { } else { }", "SIf@0(EName@3 x, SBlock@5, SIf@14(EName@17 y, SBlock@19, SBlock@28))"},
		{"if x { if y { } } else { }", "SIf@0(EName@3 x, SBlock@5(SIf@7(EName@10 y, SBlock@12)), SBlock@23)"},
		{"if prog() { } { }", "SIf@0(EProg@3(SBlock@10), SBlock@14)"},
		{"while x { y; }", "SWhile@0(EName@6 x, SBlock@8(SDo@10(EName@10 y)))"},
		{"return;", "SReturn@0"}, {"return 1;", "SReturn@0(EInt@7 1)"}, {"begin f();", "SBegin@0(ECall@7(EName@6 f))"}, {"begin 1;", "SBegin@0(EInt@6 1)"},
		{"{ }", "SBlock@0"}, {"{ { } 1; }", "SBlock@0(SBlock@2, SDo@6(EInt@6 1))"},
		{" x = y;", "SSet@3(EName@1 x, EName@5 y)"}, {" x <-= y;", "SSend@3(EName@1 x, EName@7 y)"}, {" 1 + 2;", "SDo@1(EBin@3 31(EInt@1 1, EInt@5 2))"},
		{"1 = 2;", "SSet@2(EInt@0 1, EInt@4 2)"}, {"a[0].1 = b == c;", "SSet@7(EField@4 1(EIndex@1(EName@0 a, EInt@2)), EBin@11 21(EName@9 b, EName@14 c))"},
		{"<-c;", "SDo@0(EUnary@0 3(EName@2 c))"}, {"<-c <-= <-d;", "SSend@4(EUnary@0 3(EName@2 c), EUnary@8 3(EName@10 d))"}, {"<-c = 1;", "SSet@4(EUnary@0 3(EName@2 c), EInt@6 1)"},
		{"prog() { }();", "SDo@0(ECall@10(EProg@0(SBlock@7)))"}, {"[1];", "SDo@0(EArray@0(EInt@1 1))"},
		{"select { }", "SSelect@0"}, {"select { case <-c { x; } }", "SSelect@0(NRecv@9(EName@16 c, SBlock@18(SDo@20(EName@20 x))))"},
		{"select { case <-<-c { } }", "SSelect@0(NRecv@9(EUnary@16 3(EName@18 c), SBlock@20))"},
		{"select { case x = <- -c[0] { } }", "SSelect@0(NRecv@9 x(EUnary@21 1(EIndex@23(EName@22 c, EInt@24)), SBlock@27))"},
		{"select { case <-(a + b) { } }", "SSelect@0(NRecv@9(EParen@16(EBin@19 31(EName@17 a, EName@21 b)), SBlock@24))"},
		{"select { case x <-= <-y + 1 { } }", "SSelect@0(NSend@9(EName@14 x, EBin@24 31(EUnary@20 3(EName@22 y), EInt@26 1), SBlock@28))"},
		{"select { case (<-x) <-= 1 { } }", "SSelect@0(NSend@9(EParen@14(EUnary@15 3(EName@17 x)), EInt@24 1, SBlock@26))"},
		{"select { case -<-x <-= 1 { } }", "SSelect@0(NSend@9(EUnary@14 1(EUnary@15 3(EName@17 x)), EInt@23 1, SBlock@25))"},
		{"select { case x == y <-= 1 { } }", "SSelect@0(NSend@9(EBin@16 21(EName@14 x, EName@19 y), EInt@25 1, SBlock@27))"},
		{"select { case x[y] <-= z { } }", "SSelect@0(NSend@9(EIndex@15(EName@14 x, EName@16 y), EName@23 z, SBlock@25))"},
	} {
		wantTold(t, x.src, "NProgram@0("+x.want+")")
	}
	// A statement that ends with a block is done there: what follows is another one.
	wantTold(t, "{ }(x);", "NProgram@0(SBlock@0, SDo@3(EParen@3(EName@4 x)))")
	wantTold(t, "while x { }[y];", "NProgram@0(SWhile@0(EName@6 x, SBlock@8), SDo@11(EArray@11(EName@12 y)))")
	wantTold(t, "if x { }-y;", "NProgram@0(SIf@0(EName@3 x, SBlock@5), SDo@8(EUnary@8 1(EName@9 y)))")
	wantTold(t, "select { } select { }", "NProgram@0(SSelect@0, SSelect@11)")
}

func TestWrongStatements(t *testing.T) {
	for _, marked := range []string{
		"^;", "^}", "^else { }", "^case x { }", "^=", "^<-= 1;", "^: int;", "x; ^;", "{ } ^;", "type T = int; ^;",
		"val ^1 = 2;", "val ^val = 2;", "val x ^: int = 2;", "val x^;", "val x ^== 2;", "val x =^;", "val x = 1^", "val x = 1 ^= 2;", "val x = 1 ^<-= 2;", "val x = 1^}", "val^", "val x^",
		"var ^int: int;", "var x ^= 1;", "var x^;", "var x:^;", "var x: int ^1;", "var x: int =^;", "var x: int = 1^", "var x: int ^<-= 1;", "var x: int^", "var x: int = 1 ^= 1;",
		"if ^{ }", "if x^;", "if x ^y", "if x {^", "if x { ^else", "if x { } else^;", "if x { } else^", "if x { } else ^while y { }", "if x { } else ^x;", "if x { } else if ^{ }", "if x { } else { } ^else { }", "if (x)^", "if x { }^;",
		"if x ^= 1 { }", "if prog() { }^;", "if x { } else if y^",
		"while ^{ }", "while x^;", "while x { } ^else { }", "while x { 1^}", "while^",
		"return ^}", "return^", "return 1^", "return 1 ^2;", "return 1 ^= 2;", "return ^return;", "return^)", "begin^;", "begin f()^", "begin ^begin f();", "begin f() ^= 1;",
		"{^", "{ x;^", "{ ^)", "{ ^type T = int; }", "{ x^}", "{ } ^}", "{ { }^",
		"x^", "x =^;", "x = 1^", "x = 1 ^= 2;", "x <-=^;", "x <-= 1^", "x <-= 1 ^<-= 2;", "x <-= 1 ^= 2;", "x ^:", "<-c ^<- d;",
		"select ^x", "select^;", "select {^", "select { ^x; }", "select { ^<-c { } }", "select { ^{ } }", "select { ^else { } }", "select { }^;",
		"select { case^", "select { case ^}", "select { case ^{ } }", "select { case ^val x = <-c { } }", "select { case ^= <-c { } }", "select { case ^case",
		"select { case <-^{ } }", "select { case <-c^;", "select { case <-c^}", "select { case <-c ^+ 1 { } }", "select { case <-c ^<-= 1 { } }", "select { case <-c ^= 1 { } }", "select { case <-c {^",
		"select { case <-c ^== d <-= 1 { } }", "select { case <-c { }^", "select { case <-c { } ^else",
		"select { case x^", "select { case x ^{ } }", "select { case x^;", "select { case x^}", "select { case x =^", "select { case x = ^{ } }", "select { case x = ^c { } }", "select { case x = ^-<-c { } }", "select { case x = ^(<-c) { } }",
		"select { case x = <-^{ } }", "select { case x = <-c^;", "select { case x = <-c ^+ 1 { } }", "select { case x = <-c ^<-= 1 { } }", "select { case x = ^= <-c { } }", "select { case x = <-c^",
		"select { case (x) ^= <-c { } }", "select { case x.0 ^= <-c { } }", "select { case 1 ^= <-c { } }", "select { case x ^<-c { } }",
		"select { case x <-=^{ } }", "select { case x <-= 1^;", "select { case x <-= 1^}", "select { case x <-= 1 ^<-= 2 { } }", "select { case x <-= 1 ^= 2 { } }", "select { case x <-= 1^", "select { case x + 1 ^{ } }",
		"type ^int = int;", "type^;", "type T^;", "type T ^: int;", "type T =^;", "type T = ^1;", "type T = int^", "type T = int ^type", "type T = int^}", "type T^", "type^", "x; ^type", "{ } ^type T = int;",
	} {
		wantFault(t, marked)
	}
}

// What is refused at the source's end is told behind its last byte, blanks and remarks too.
func TestEnd(t *testing.T) {
	for _, src := range []string{"x", "x ", "x\n\n", "x # y;", "x # y;\n", "  { # }"} {
		wantFault(t, src+"^")
	}
	wantTold(t, " # nothing", "NProgram@0")
	wantTold(t, "\n x;", "NProgram@0(SDo@2(EName@2 x))")
}

// P3.1: scan's fault ahead of all, what the grammar refuses ahead of what is too high.
func TestFirstFault(t *testing.T) {
	for _, x := range []struct {
		src  string
		nest int
		want api.Fault
	}{
		{"1 + ; $", 0, api.Fault{At: 6, Code: api.ErrScanByte}},
		{"; 007", 9, api.Fault{At: 2, Code: api.ErrScanNumber}},
		{"; " + strings.Repeat("a", 33), 9, api.Fault{At: 2, Code: api.ErrScanName}},
		{"; ; " + strings.Repeat(" ", api.MaxSource), 9, api.Fault{At: api.MaxSource, Code: api.ErrScanLong}},
		{"$ ; @", 9, api.Fault{At: 0, Code: api.ErrScanByte}},
		{"((((x)))); ; ]", 1, api.Fault{At: 11, Code: api.ErrParseWant}},
		{"((((x))))", 0, api.Fault{At: 9, Code: api.ErrParseWant}},
		{"; ) ]", -5, api.Fault{At: 0, Code: api.ErrParseWant}},
		{" x; ((y)); (z);", 0, api.Fault{At: 1, Code: api.ErrParseDeep}},
		{" x; ((y)); (z);", 1, api.Fault{At: 1, Code: api.ErrParseDeep}},
		{" x; ((y)); (z);", 2, api.Fault{At: 4, Code: api.ErrParseDeep}},
		{" x; ((y)); (z);", 3, api.Fault{At: 4, Code: api.ErrParseDeep}},
		{" x; ((y)); (z);", 4, api.Fault{At: 0, Code: api.ErrParseDeep}},
		{" x; a[b];", 1, api.Fault{At: 1, Code: api.ErrParseDeep}},
		{" f(a[b]);", 1, api.Fault{At: 4, Code: api.ErrParseDeep}},
		{" f(a[b]);", 2, api.Fault{At: 2, Code: api.ErrParseDeep}},
		{"type T = array of int;", 1, api.Fault{At: 9, Code: api.ErrParseDeep}},
	} {
		if l, f := parse.Parse([]byte(x.src), x.nest); f != x.want || len(l) != 0 {
			t.Errorf("%.40q, %d: %v, not %v", x.src, x.nest, f, x.want)
		}
	}
	if l, f := parse.Parse([]byte(" x; ((y)); (z);"), 5); f != (api.Fault{}) || len(l) != 10 {
		t.Errorf("%v, %v", l, f)
	}
}

// A source of as many bytes as there may be, with as much nested as can be.
func TestDeep(t *testing.T) {
	for _, x := range []struct {
		head, open, inner, shut, tail string
		each                          int // nodes that one more round nests in one another
	}{
		{"", "(", "x", ")", ";", 1}, {"", "[", "x", "]", ";", 1}, {"", "-", "x", "", ";", 1}, {"", "{", "", "}", "", 1},
		{"", "f(", "x", ")", ";", 1}, {"", "a[", "x", "]", ";", 1}, {"", "1+(", "x", ")", ";", 2}, {"", "1||1&&1<1+1*-(", "x", ")", ";", 7},
		{"var x:", "array of ", "int", "", ";", 1}, {"var x:", "prog():", "int", "", ";", 1}, {"var x:", "(T,", "T", ")", ";", 1},
		{"", "if x{}else ", "{}", "", "", 1}, {"", "x=prog(){", "", "};", "", 3}, {"", "select{case<-c{", "", "}}", "", 3},
		{"x", "+x", "", "", ";", 1}, {"x", ".0", "", "", ";", 1},
	} {
		rounds := (api.MaxSource - 40) / len(x.open+x.shut)
		src := x.head + strings.Repeat(x.open, rounds) + x.inner + strings.Repeat(x.shut, rounds) + x.tail
		l, f := parse.Parse([]byte(src), high)
		if f != (api.Fault{}) {
			t.Errorf("%q: %v", x.open, f)
			continue
		}
		heights := tree.Height(l)
		if top := heights[len(heights)-1]; top < rounds*x.each || top > rounds*x.each+4 {
			t.Errorf("%q: %d high of %d rounds", x.open, top, rounds)
		}
		cut := strings.Repeat(x.open, rounds)
		if x.head != "" || x.inner == "" && x.shut == "" {
			continue
		}
		if _, f := parse.Parse([]byte(cut), high); f != (api.Fault{At: len(cut), Code: api.ErrParseWant}) {
			t.Errorf("%q, cut: %v", x.open, f)
		}
	}
}

// R4: what is answered shares nothing, neither with the source nor among its lists.
func TestMemory(t *testing.T) {
	text := "type T = (int, bool, T); val abc = prog g(p: int, q: T): int { return f(p, [1, 2, 3], q.0) + -h(); }; select { case y = <-c { } case c <-= 1 { } }"
	room := make([]byte, len(text), len(text)+20)
	copy(room, text)
	l, f := parse.Parse(room, high)
	if f.Code != api.OK || string(room) != text || string(room[:cap(room)][len(room):]) != string(make([]byte, 20)) {
		t.Fatalf("%v, %q", f, room[:cap(room)])
	}
	before := told(l, len(l)-1)
	again, _ := parse.Parse(room, high)
	for i := range room {
		room[i] = 'z'
	}
	if told(l, len(l)-1) != before {
		t.Error("the source was kept")
	}
	for i := range l {
		for k := range l[i].Kids[:cap(l[i].Kids)] {
			l[i].Kids[:cap(l[i].Kids)][k] = -1 - i
		}
	}
	for i := range l {
		for _, k := range l[i].Kids {
			if k != -1-i {
				t.Errorf("node %d shares its kids", i)
			}
		}
	}
	if told(again, len(again)-1) != before {
		t.Error("two answers share their kids")
	}
}
