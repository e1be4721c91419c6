package tree_test

import (
	"math"
	"reflect"
	"strings"
	"testing"

	"squint/api"
	"squint/tree"
)

// kinds has, of each kind of node: a Num and a Name that it takes, and kids that it takes and that it does not take with these, in letters.
var kinds = []struct {
	kind      int
	name      string
	num       int
	good, bad string
}{
	{api.TInt, "", 0, ".", "T C E S B I P R N Y Z"},
	{api.TBool, "", 0, ".", "T E B Z"},
	{api.TName, "n", 0, ".", "T E P Y"},
	{api.TArray, "", 0, "T C", ". TT CC E S B P Y Z TE"},
	{api.TChan, "", 0, "T C", ". TT CC E S B P Y Z TE"},
	{api.TTuple, "", 0, "TT CT TC TTT TTTTTT", ". T C TE ET TTE TTP TTB TTY"},
	{api.TProg, "", 0, ". T C TT TTT", "E TE ET P B TB PB TTE Y"},
	{api.TProg, "", 1, "T C TT TTC", "E TE ET P B TB PB TTE Y"},
	{api.EInt, "", 7, ".", "E T B"},
	{api.EBool, "", 1, ".", "E T B"},
	{api.EName, "n", 0, ".", "E T B"},
	{api.EParen, "", 0, "E", ". T C EE S B I P R N Y Z ES"},
	{api.ETuple, "", 0, "EE EEE EEEEEE", ". E ET TE EEB EES EET"},
	{api.EArray, "", 0, "E EE EEE", ". T ET TE EES EB"},
	{api.EFill, "", 0, "EE", ". E EEE ET TE EB"},
	{api.ELen, "", 0, "E", ". EE T B"},
	{api.EMake, "", 0, "C", ". T CC CE E B"},
	{api.EProg, "", 0, "B PB PPB PPPB", ". P TB PTB E BB BP PBP S I EB PE TPB BT"},
	{api.EProg, "f", 1, "TB CB PTB PPCB", ". B PB T PT TTB TPB BT PBT TBB PEB TS EB Z"},
	{api.EUnary, "", api.OpNot, "E", ". EE T B"},
	{api.EBin, "", api.OpAdd, "EE", ". E EEE ET TE EB"},
	{api.ECall, "", 0, "E EE EEE", ". T ET TE EES EB"},
	{api.EIndex, "", 0, "EE", ". E EEE ET TE EB"},
	{api.EField, "", 7, "E", ". EE T B"},
	{api.SVal, "n", 0, "E", ". EE T B S"},
	{api.SVar, "n", 0, "T C TE CE", ". E TT TEE ET TB TET"},
	{api.SSet, "", 0, "EE", ". E EEE ET TE EB"},
	{api.SSend, "", 0, "EE", ". E EEE ET TE EB"},
	{api.SDo, "", 0, "E", ". EE T B S"},
	{api.SIf, "", 0, "EB EBB EBI", ". E B EE BB EBS EBE EBR EBBB EBIB EBBI TB EI ES EII EBZ"},
	{api.SWhile, "", 0, "EB", ". E B EBB EEB BE EI ES TB"},
	{api.SReturn, "", 0, ". E", "EE T B S"},
	{api.SBegin, "", 0, "E", ". EE T B S"},
	{api.SSelect, "", 0, ". R N RN NRNR", "B S I E T P Y Z RB NS BR"},
	{api.SBlock, "", 0, ". S B I SBI SSSSSS", "E T C P R N Y Z SE ES SR YS SZ"},
	{api.NParam, "n", 0, "T C", ". TT CC E S B P Y Z TE"},
	{api.NRecv, "", 0, "EB", ". E B EBB EEB BE EI ES TB"},
	{api.NSend, "", 0, "EEB", ". EB EE EEE EEBB EEI EES EBE TEB ETB"},
	{api.NType, "n", 0, "T C", ". TT CC E S B P Y Z TE"},
	{api.NProgram, "", 0, ". S B I SSS SBISBI", "E T P R N Y Z SE YS SY SZ"},
	{api.NProgram, "", 1, "Y YS YBI", "S B E T SY YY YYS YE YZ P"},
	{api.NProgram, "", 2, "YY YYS YYSS", "YS SY YYY YSY SYY YYE"},
}

// told is what Check tells of a list that ends with a node with which nothing is wrong.
func told(l []api.Node) (int, api.Errno) {
	if l[len(l)-1].Kind == api.NProgram {
		return 0, api.OK
	}
	return len(l), api.ErrTreeRoot
}

// wantCheck holds Check, and Print's error, against what is wanted.
func wantCheck(t *testing.T, what string, l []api.Node, at int, code api.Errno) {
	t.Helper()
	if k, e := tree.Check(l); k != at || e != code {
		t.Errorf("%s: Check: %d, %d, not %d, %d", what, k, e, at, code)
	}
	if s, e := tree.Print(l); e != code || code != api.OK && s != "" {
		t.Errorf("%s: Print: %q, %d, not %d", what, s, e, code)
	}
}

func TestKids(t *testing.T) {
	for _, x := range kinds {
		for _, letters := range strings.Fields(x.good) {
			l := grow(x.kind, x.name, x.num, kidsOf(strings.Trim(letters, "."))...).list()
			at, code := told(l)
			wantCheck(t, letters, l, at, code)
		}
		for _, letters := range strings.Fields(x.bad) {
			l := grow(x.kind, x.name, x.num, kidsOf(strings.Trim(letters, "."))...).list()
			wantCheck(t, letters, l, len(l)-1, api.ErrTreeKids)
		}
	}
}

// good is a list that ends with a node of the row of kinds, with which nothing is wrong.
func good(row int) []api.Node {
	x := kinds[row]
	letters := strings.Fields(x.good)
	return grow(x.kind, x.name, x.num, kidsOf(strings.Trim(letters[len(letters)-1], "."))...).list()
}

func TestKindAndAt(t *testing.T) {
	known := map[int]bool{}
	for row, x := range kinds {
		known[x.kind] = true
		l := good(row)
		last := len(l) - 1
		for _, at := range []int{0, 1, math.MaxInt} {
			l[last].At = at
			k, code := told(l)
			wantCheck(t, "At", l, k, code)
		}
		for _, at := range []int{-1, math.MinInt} {
			l[last].At = at
			wantCheck(t, "At below 0", l, last, api.ErrTreeNode)
		}
	}
	if len(known) != 7+15+16 {
		t.Error("kinds:", len(known))
	}
	for kind := -3; kind < 300; kind++ {
		if !known[kind] {
			wantCheck(t, "Kind", []api.Node{{Kind: kind}}, 0, api.ErrTreeNode)
		}
	}
	wantCheck(t, "Kind", []api.Node{{Kind: math.MaxInt}}, 0, api.ErrTreeNode)
	wantCheck(t, "Kind", []api.Node{{Kind: math.MinInt}}, 0, api.ErrTreeNode)
}

func TestNum(t *testing.T) {
	most := math.MaxInt
	operators := []int{11, 12, 21, 22, 23, 24, 25, 26, 31, 32, 41, 42, 43}
	takes := map[int][]int{
		api.EInt: {0, 1, 7, most}, api.EField: {0, 1, 7, most},
		api.EBool: {0, 1}, api.EUnary: {1, 2, 3}, api.EBin: operators,
	}
	tried := []int{math.MinInt, -1, 7, most}
	for k := range 60 {
		tried = append(tried, k)
	}
	for row, x := range kinds {
		if x.kind == api.TProg || x.kind == api.EProg || x.kind == api.NProgram {
			continue
		}
		right := takes[x.kind]
		if right == nil {
			right = []int{0}
		}
		for _, num := range tried {
			l := good(row)
			last := len(l) - 1
			l[last].Num = num
			at, code := last, api.ErrTreeNum
			for _, r := range right {
				if num == r || (x.kind == api.EInt || x.kind == api.EField) && num >= 0 {
					at, code = told(l)
				}
			}
			wantCheck(t, "Num", l, at, code)
		}
	}
}

func TestNumOfProgs(t *testing.T) {
	for i, x := range []struct {
		kind, num int
		letters   string
		code      api.Errno
	}{
		{api.TProg, 0, "", api.OK}, {api.TProg, 1, "", api.ErrTreeNum}, {api.TProg, 1, "T", api.OK},
		{api.TProg, -1, "", api.ErrTreeNum}, {api.TProg, 2, "TT", api.ErrTreeNum}, {api.TProg, 1, "E", api.ErrTreeKids},
		{api.EProg, 0, "B", api.OK}, {api.EProg, 1, "B", api.ErrTreeKids}, {api.EProg, 1, "TB", api.OK},
		{api.EProg, 0, "TB", api.ErrTreeKids}, {api.EProg, 2, "TB", api.ErrTreeNum}, {api.EProg, -1, "B", api.ErrTreeNum},
		{api.EProg, 1, "", api.ErrTreeKids},
		{api.NProgram, 0, "", api.OK}, {api.NProgram, 1, "", api.ErrTreeNum}, {api.NProgram, -1, "", api.ErrTreeNum},
		{api.NProgram, 2, "YY", api.OK}, {api.NProgram, 3, "YY", api.ErrTreeNum}, {api.NProgram, 2, "YS", api.ErrTreeKids},
		{api.NProgram, math.MaxInt, "YY", api.ErrTreeNum}, {api.NProgram, math.MinInt, "YY", api.ErrTreeNum},
	} {
		l := grow(x.kind, "", x.num, kidsOf(x.letters)...).list()
		at, code := len(l)-1, x.code
		if code == api.OK {
			at, code = told(l)
		}
		if k, e := tree.Check(l); k != at || e != code {
			t.Errorf("%d: %d, %d, not %d, %d", i, k, e, at, code)
		}
	}
}

func TestName(t *testing.T) {
	named := map[int]bool{api.TName: true, api.EName: true, api.SVal: true, api.SVar: true, api.NParam: true, api.NType: true}
	open := map[int]bool{api.EProg: true, api.NRecv: true}
	names := []string{"a", "z", "A", "Z", "_", "_0", "a9Z_", "while_", "While", "input", "output", strings.Repeat("n", 32)}
	others := []string{
		"0", "9a", "a b", " a", "a ", "a\n", "#", "a#", "a-b", "é", "a\x00", "(", "<-=", ".", "a.b", "1", "@",
		strings.Repeat("n", 33), strings.Repeat("n", 70000), "a" + strings.Repeat(" ", 70000),
		"array", "begin", "bool", "case", "chan", "else", "false", "fill", "if", "int", "len", "make", "of", "prog",
		"return", "select", "true", "type", "val", "var", "while",
	}
	for row, x := range kinds {
		l := good(row)
		last := len(l) - 1
		try := func(name string, right bool) {
			t.Helper()
			l[last].Name = name
			at, code := told(l)
			if !right {
				at, code = last, api.ErrTreeName
			}
			wantCheck(t, "Name", l, at, code)
		}
		try("", !named[x.kind])
		for _, name := range names {
			try(name, named[x.kind] || open[x.kind])
		}
		for _, name := range others {
			try(name, false)
		}
	}
}

// oneOf has one expression of each level, 1 to 8, and more of those levels that several kinds have.
func oneOf() []*plant {
	a, b := nameOf("a"), nameOf("b")
	out := []*plant{}
	for _, op := range []int{11, 12, 21, 22, 23, 24, 25, 26, 31, 32, 41, 42, 43} {
		x := bin(op, a, b)
		out = append(out, x)
	}
	for _, op := range []int{1, 2, 3} {
		out = append(out, unary(op, a))
	}
	return append(out, call(a), grow(api.EIndex, "", 0, a, b), grow(api.EField, "", 0, a),
		a, number(0), grow(api.EBool, "", 0), paren(a), grow(api.ETuple, "", 0, a, b), grow(api.EArray, "", 0, a),
		grow(api.EFill, "", 0, a, b), grow(api.ELen, "", 0, a), grow(api.EMake, "", 0, lettered('C')), grow(api.EProg, "", 0, block()))
}

// levelOf reads P2.1 a second time.
func levelOf(n api.Node) int {
	ops := map[int]int{11: 1, 12: 2, 21: 3, 22: 3, 23: 3, 24: 3, 25: 3, 26: 3, 31: 4, 32: 4, 41: 5, 42: 5, 43: 5}
	switch {
	case n.Kind == 22:
		return ops[n.Num]
	case n.Kind == 21 && (n.Num == 1 || n.Num == 2 || n.Num == 3):
		return 6
	case n.Kind == 21:
		return 0
	case n.Kind == 23 || n.Kind == 24 || n.Kind == 25:
		return 7
	case n.Kind >= 11 && n.Kind <= 20:
		return 8
	}
	return 0
}

func TestLevel(t *testing.T) {
	for kind := -5; kind < 80; kind++ {
		for num := -5; num < 80; num++ {
			n := api.Node{Kind: kind, Num: num}
			if got := tree.Level(n); got != levelOf(n) {
				t.Errorf("Level of kind %d, Num %d: %d", kind, num, got)
			}
		}
	}
	if k := tree.Level(api.Node{Kind: math.MinInt, Num: math.MaxInt}); k != 0 {
		t.Error("Level of no kind:", k)
	}
}

func TestPlaces(t *testing.T) {
	e, b := nameOf("e"), block()
	for i, x := range []struct {
		least int
		made  func(p *plant) *plant
	}{
		{1, func(p *plant) *plant { return bin(api.OpOr, p, e) }}, {2, func(p *plant) *plant { return bin(api.OpOr, e, p) }},
		{2, func(p *plant) *plant { return bin(api.OpAnd, p, e) }}, {3, func(p *plant) *plant { return bin(api.OpAnd, e, p) }},
		{4, func(p *plant) *plant { return bin(api.OpEq, p, e) }}, {4, func(p *plant) *plant { return bin(api.OpEq, e, p) }},
		{4, func(p *plant) *plant { return bin(api.OpNe, p, e) }}, {4, func(p *plant) *plant { return bin(api.OpNe, e, p) }},
		{4, func(p *plant) *plant { return bin(api.OpLt, p, e) }}, {4, func(p *plant) *plant { return bin(api.OpLt, e, p) }},
		{4, func(p *plant) *plant { return bin(api.OpLe, p, e) }}, {4, func(p *plant) *plant { return bin(api.OpLe, e, p) }},
		{4, func(p *plant) *plant { return bin(api.OpGt, p, e) }}, {4, func(p *plant) *plant { return bin(api.OpGt, e, p) }},
		{4, func(p *plant) *plant { return bin(api.OpGe, p, e) }}, {4, func(p *plant) *plant { return bin(api.OpGe, e, p) }},
		{4, func(p *plant) *plant { return bin(api.OpAdd, p, e) }}, {5, func(p *plant) *plant { return bin(api.OpAdd, e, p) }},
		{4, func(p *plant) *plant { return bin(api.OpSub, p, e) }}, {5, func(p *plant) *plant { return bin(api.OpSub, e, p) }},
		{5, func(p *plant) *plant { return bin(api.OpMul, p, e) }}, {6, func(p *plant) *plant { return bin(api.OpMul, e, p) }},
		{5, func(p *plant) *plant { return bin(api.OpDiv, p, e) }}, {6, func(p *plant) *plant { return bin(api.OpDiv, e, p) }},
		{5, func(p *plant) *plant { return bin(api.OpMod, p, e) }}, {6, func(p *plant) *plant { return bin(api.OpMod, e, p) }},
		{6, func(p *plant) *plant { return unary(api.OpNeg, p) }}, {6, func(p *plant) *plant { return unary(api.OpNot, p) }},
		{6, func(p *plant) *plant { return unary(api.OpRecv, p) }},
		{6, func(p *plant) *plant { return grow(api.NRecv, "", 0, p, b) }}, {6, func(p *plant) *plant { return grow(api.NRecv, "x", 0, p, b) }},
		{7, func(p *plant) *plant { return call(p) }}, {1, func(p *plant) *plant { return call(e, p) }}, {1, func(p *plant) *plant { return call(e, e, p) }},
		{7, func(p *plant) *plant { return grow(api.EIndex, "", 0, p, e) }}, {1, func(p *plant) *plant { return grow(api.EIndex, "", 0, e, p) }},
		{7, func(p *plant) *plant { return grow(api.EField, "", 3, p) }},
		{1, paren}, {1, func(p *plant) *plant { return grow(api.ETuple, "", 0, p, e) }}, {1, func(p *plant) *plant { return grow(api.ETuple, "", 0, e, p) }},
		{1, func(p *plant) *plant { return grow(api.EArray, "", 0, p) }}, {1, func(p *plant) *plant { return grow(api.EArray, "", 0, e, p) }},
		{1, func(p *plant) *plant { return grow(api.EFill, "", 0, p, e) }}, {1, func(p *plant) *plant { return grow(api.EFill, "", 0, e, p) }},
		{1, func(p *plant) *plant { return grow(api.ELen, "", 0, p) }},
		{1, func(p *plant) *plant { return grow(api.SVal, "x", 0, p) }}, {1, func(p *plant) *plant { return grow(api.SVar, "x", 0, lettered('T'), p) }},
		{1, func(p *plant) *plant { return grow(api.SSet, "", 0, p, e) }}, {1, func(p *plant) *plant { return grow(api.SSet, "", 0, e, p) }},
		{1, func(p *plant) *plant { return grow(api.SSend, "", 0, p, e) }}, {1, func(p *plant) *plant { return grow(api.SSend, "", 0, e, p) }},
		{1, do}, {1, func(p *plant) *plant { return grow(api.SIf, "", 0, p, b) }}, {1, func(p *plant) *plant { return grow(api.SWhile, "", 0, p, b) }},
		{1, func(p *plant) *plant { return grow(api.SReturn, "", 0, p) }}, {1, func(p *plant) *plant { return grow(api.SBegin, "", 0, p) }},
		{1, func(p *plant) *plant { return grow(api.NSend, "", 0, e, p, b) }},
	} {
		for _, p := range oneOf() {
			l := x.made(p).list()
			at, code := told(l)
			if levelOf(p.node) < x.least {
				at, code = len(l)-1, api.ErrTreeLevel
			}
			if k, e := tree.Check(l); k != at || e != code {
				t.Errorf("place %d, kid %v: %d, %d", i, p.node, k, e)
			}
		}
	}
}

func TestArmsThatSend(t *testing.T) {
	recv := unary(api.OpRecv, nameOf("c"))
	two := unary(api.OpNeg, recv)
	inParen := paren(recv)
	index := func(a, b *plant) *plant { return grow(api.EIndex, "", 0, a, b) }
	field := func(a *plant) *plant { return grow(api.EField, "", 0, a) }
	for i, x := range []struct {
		channel *plant
		right   bool
	}{
		{recv, false}, {unary(api.OpRecv, recv), false}, {two, true}, {unary(api.OpNot, recv), true}, {inParen, true},
		{bin(api.OpMul, recv, number(1)), false}, {bin(api.OpMul, number(1), recv), true},
		{bin(api.OpOr, bin(api.OpAnd, bin(api.OpLt, bin(api.OpAdd, bin(api.OpMod, recv, recv), number(1)), number(2)), number(3)), number(4)), false},
		{bin(api.OpOr, bin(api.OpAnd, bin(api.OpLt, bin(api.OpAdd, bin(api.OpMod, two, recv), number(1)), number(2)), number(3)), number(4)), true},
		{call(inParen, recv), true}, {index(inParen, recv), true}, {field(inParen), true},
		{call(nameOf("f"), recv), true}, {index(nameOf("f"), recv), true},
		{bin(api.OpAdd, call(index(field(inParen), number(1))), recv), true},
		{grow(api.ETuple, "", 0, recv, recv), true}, {grow(api.EArray, "", 0, recv), true}, {grow(api.ELen, "", 0, recv), true},
		{grow(api.EFill, "", 0, recv, recv), true}, {grow(api.EProg, "", 0, block(do(recv))), true},
	} {
		l := grow(api.NSend, "", 0, x.channel, nameOf("v"), block()).list()
		at, code := told(l)
		if !x.right {
			at, code = len(l)-1, api.ErrTreeLevel
		}
		if k, e := tree.Check(l); k != at || e != code {
			t.Errorf("channel %d: %d, %d", i, k, e)
		}
	}
	// What is sent may begin with `<-`; so may the channel of a statement, and of an arm that receives.
	for _, p := range []*plant{
		grow(api.NSend, "", 0, nameOf("c"), recv, block()), grow(api.SSend, "", 0, recv, recv), grow(api.NRecv, "", 0, recv, block()),
	} {
		l := p.list()
		wantCheck(t, "<-", l, len(l), api.ErrTreeRoot)
	}
}

// The levels of postfixes keep a `<-` from standing right below one: it is told there, ahead of the arm.
func TestRecvBelowPostfix(t *testing.T) {
	recv := unary(api.OpRecv, nameOf("c"))
	for _, p := range []*plant{call(recv), grow(api.EIndex, "", 0, recv, number(1)), grow(api.EField, "", 0, recv)} {
		l := grow(api.NSend, "", 0, p, number(1), block()).list()
		at := len(p.list()) - 1
		wantCheck(t, "postfix", l, at, api.ErrTreeLevel)
	}
}

func n(kind int, name string, num int, kids ...int) api.Node {
	return api.Node{Kind: kind, Name: name, Num: num, Kids: kids}
}

func TestOrder(t *testing.T) {
	one, two := n(api.EInt, "", 1), n(api.EInt, "", 2)
	sum := func(a, b int) api.Node { return n(api.EBin, "", api.OpAdd, a, b) }
	neg := n(api.EUnary, "", api.OpNeg, 1)
	kids := api.ErrTreeKids
	for i, x := range []struct {
		l    []api.Node
		at   int
		code api.Errno
	}{
		{[]api.Node{one, two, sum(0, 1)}, 3, api.ErrTreeRoot},
		{[]api.Node{one, two, sum(1, 0)}, 2, kids},
		{[]api.Node{one, two, sum(1, 1)}, 2, kids},
		{[]api.Node{one, two, sum(0, 0)}, 2, kids},
		{[]api.Node{one, two, sum(0, 2)}, 2, kids},
		{[]api.Node{one, two, sum(2, 1)}, 2, kids},
		{[]api.Node{one, two, sum(0, 3)}, 2, kids},
		{[]api.Node{one, two, sum(-1, 1)}, 2, kids},
		{[]api.Node{one, two, sum(0, -1)}, 2, kids},
		{[]api.Node{one, sum(-1, 0)}, 1, kids},
		{[]api.Node{sum(-2, -1)}, 0, kids},
		{[]api.Node{n(api.EParen, "", 0, 0)}, 0, kids},
		{[]api.Node{n(api.EParen, "", 0, -1)}, 0, kids},
		{[]api.Node{n(api.EParen, "", 0, 1), one}, 0, kids},
		{[]api.Node{one, n(api.EParen, "", 0, math.MaxInt)}, 1, kids},
		{[]api.Node{one, n(api.EParen, "", 0, math.MinInt)}, 1, kids},
		{[]api.Node{one, two, n(api.EParen, "", 0, 0)}, 2, kids},
		{[]api.Node{one, two, neg, sum(0, 2)}, 4, api.ErrTreeRoot},
		{[]api.Node{one, two, neg, sum(1, 2)}, 3, kids},
		{[]api.Node{one, two, sum(0, 1), two, sum(2, 3)}, 5, api.ErrTreeRoot},
		{[]api.Node{one, two, sum(0, 1), two, sum(1, 3)}, 4, kids},
		{[]api.Node{one, two, sum(0, 1), two, sum(0, 3)}, 4, kids},
		{[]api.Node{one, one, two, sum(1, 2), two, sum(3, 4)}, 6, api.ErrTreeRoot},
		{[]api.Node{one, one, two, n(api.ETuple, "", 0, 0, 1, 2)}, 4, api.ErrTreeRoot},
		{[]api.Node{one, one, two, n(api.ETuple, "", 0, 0, 2)}, 3, kids},
		{[]api.Node{one, one, two, n(api.ETuple, "", 0, 1, 0, 2)}, 3, kids},
		{[]api.Node{one, one, two, n(api.ETuple, "", 0, 0, 1)}, 3, kids},
	} {
		if k, e := tree.Check(x.l); k != x.at || e != x.code {
			t.Errorf("list %d: %d, %d, not %d, %d", i, k, e, x.at, x.code)
		}
	}
}

func TestRoot(t *testing.T) {
	one, root := n(api.EInt, "", 1), n(api.NProgram, "", 0)
	for i, l := range [][]api.Node{
		nil, {}, {one}, {one, n(api.SDo, "", 0, 0)}, {n(api.SBlock, "", 0)},
		{one, n(api.SDo, "", 0, 0), root}, {one, root}, {root, root}, {root, one}, {root, n(api.SBlock, "", 0)},
		{n(api.SBlock, "", 0), n(api.SBlock, "", 0), n(api.NProgram, "", 0, 1)},
		{root, n(api.SBlock, "", 0), n(api.NProgram, "", 0, 1)},
	} {
		if k, e := tree.Check(l); k != len(l) || e != api.ErrTreeRoot {
			t.Errorf("list %d: %d, %d", i, k, e)
		}
	}
	for _, l := range [][]api.Node{{root}, {n(api.SBlock, "", 0), n(api.SBlock, "", 0), n(api.NProgram, "", 0, 0, 1)}} {
		wantCheck(t, "root", l, 0, api.OK)
	}
}

func TestFirstError(t *testing.T) {
	// A node with which everything is wrong, and then less and less.
	steps := []struct {
		node api.Node
		code api.Errno
	}{
		{api.Node{Kind: 26, At: -1, Num: -1, Name: "val", Kids: []int{9}}, api.ErrTreeNode},
		{api.Node{Kind: 26, Num: -1, Name: "val", Kids: []int{9}}, api.ErrTreeNode},
		{api.Node{Kind: api.EBin, At: -1, Num: 9, Name: "val", Kids: []int{9}}, api.ErrTreeNode},
		{api.Node{Kind: api.EBin, Num: 9, Name: "val", Kids: []int{9}}, api.ErrTreeNum},
		{api.Node{Kind: api.EBin, Num: api.OpMul, Name: "val", Kids: []int{9}}, api.ErrTreeName},
		{api.Node{Kind: api.EBin, Num: api.OpMul, Kids: []int{9}}, api.ErrTreeKids},
		{api.Node{Kind: api.EBin, Num: api.OpMul, Kids: []int{3, 2}}, api.ErrTreeKids},
		{api.Node{Kind: api.EBin, Num: api.OpMul, Kids: []int{2, 3}}, api.ErrTreeLevel},
		{api.Node{Kind: api.EBin, Num: api.OpSub, Kids: []int{2, 3}}, api.OK},
	}
	ahead := bin(api.OpAdd, number(1), number(2)).list()
	for i, x := range steps {
		l := append(copyOf(ahead), n(api.EInt, "", 3), x.node)
		at := 4
		code := x.code
		if code == api.OK {
			at, code = 5, api.ErrTreeRoot
		}
		wantCheck(t, "step", l, at, code)
		if x.code == api.OK {
			continue
		}
		for k, y := range steps[:8] { // the first node is told, whatever is wrong with later ones
			m := append(copyOf(l), y.node)
			if at, e := tree.Check(m); at != 4 || e != x.code {
				t.Errorf("steps %d, %d: %d, %d", i, k, at, e)
			}
		}
	}
}

func TestHeight(t *testing.T) {
	for i, x := range []struct {
		l    []api.Node
		want []int
	}{
		{nil, nil},
		{[]api.Node{n(api.EInt, "", 0), n(api.SDo, "", 0, 0), n(api.SDo, "", 0, 7)}, []int{1, 2, 1}},
		{[]api.Node{{}, n(99, "", -5, 0), n(-1, "", 0, 0, 1), n(0, "", 0, 1, 0)}, []int{1, 2, 3, 3}},
		{[]api.Node{n(1, "", 0, 0), n(1, "", 0, 1), n(1, "", 0, 3), n(1, "", 0, -1), n(1, "", 0, math.MinInt, math.MaxInt)}, []int{1, 1, 1, 1, 1}},
		{[]api.Node{n(1, "", 0), n(1, "", 0, 0), n(1, "", 0, 1), n(1, "", 0, -1, 2, 9), n(1, "", 0, 0, 0, 0)}, []int{1, 2, 3, 4, 2}},
	} {
		got := tree.Height(x.l)
		if len(got) != len(x.want) || len(got) > 0 && !reflect.DeepEqual(got, x.want) {
			t.Errorf("list %d: %v", i, got)
		}
	}
}

func TestMemory(t *testing.T) {
	l := program(do(bin(api.OpAdd, number(1), call(nameOf("f"), number(2), number(3)))), block()).list()
	room := make([]api.Node, len(l), len(l)+3)
	copy(room, l)
	for i := range room {
		kids := make([]int, len(room[i].Kids), len(room[i].Kids)+3)
		copy(kids, room[i].Kids)
		room[i].Kids = kids
	}
	tree.Check(room)
	tree.Print(room)
	a, b := tree.Height(room), tree.Height(room)
	if !reflect.DeepEqual(copyOf(room), copyOf(l)) {
		t.Error("the list was changed")
	}
	for _, x := range room {
		for _, k := range x.Kids[:len(x.Kids)+3][len(x.Kids):] {
			if k != 0 {
				t.Error("spare room was written to")
			}
		}
	}
	for i := range a {
		a[i] = -1
	}
	for _, h := range append(b, tree.Height(room)...) {
		if h < 1 {
			t.Error("heights are shared")
		}
	}
}
